/- NoticeReplies: for all two notices: what Reply tells beats the suspicion, and nothing lies between; no condition. -/
import Derived.Test.YtebpngapkkdifaaRows
import Derived.WalkKit
import Derived.ProofKit
import Derived.OpenShut
import Derived.Test.YtebpngapkkdifaaNte
import Derived.Test.YtebpngapkkdifaaOpt
namespace Go.Proofs.Ytebpngapkkdifaa
open Go.ChangeShapes Go.WideShapes Go.ChangeAt Go.RowKit
set_option linter.unusedVariables false


theorem own : ownKnob Try.prog.godebug = none := by kernel_rfl
theorem NB.set0 {W : World} {B : Nat} {o t k : Int} (h : NB W B o t k) (a : Int) : NB (W.setCell ⟨B, 0, none⟩ (.int .i64 a)) B a t k := by
  have h0 := heap_setCell_same _ _ 0 _ _ (.int .i64 a) h
  unfold NB
  simpa using h0
theorem NB.other {W : World} {B B' j : Nat} {o t k : Int} (h : NB W B o t k) (hne : B ≠ B') (v : Value) : NB (W.setCell ⟨B', j, none⟩ v) B o t k := (Below.heap_setCell _ _ _ _ hne).trans h
theorem JL.set2 {w W : World} {B0 B1 : Nat} {o0 t0 k0 o1 t1 k1 : Int} (h : JL w [(B0, o0, t0, k0), (B1, o1, t1, k1)] W) (h0 : B0 ≠ B1) (hB : w.heap.size ≤ B1) (a : Int) : JL w [(B0, o0, t0, k0), (B1, a, t1, k1)] (W.setCell ⟨B1, 0, none⟩ (.int .i64 a)) := by
  refine ⟨fun z hz => ?_, h.below.setCell hB _⟩
  simp only [List.mem_cons, List.not_mem_nil, or_false] at hz
  rcases hz with rfl | rfl
  · exact (h.get 0 rfl).other h0 _
  · exact (h.get 1 rfl).set0 a
theorem size_setCell (W : World) (p : Addr) (v : Value) : (W.setCell p v).heap.size = W.heap.size := by simp [World.setCell]
set_option maxHeartbeats 4000000 in
set_option maxRecDepth 100000 in
theorem walk (o0 t0 k0 : Int) (wo0 : (Lit.int .i64 o0).wf = true) (wt0 : (Lit.int .i64 t0).wf = true) (wk0 : (Lit.int .i64 k0).wf = true) (o1 t1 k1 : Int) (wo1 : (Lit.int .i64 o1).wf = true) (wt1 : (Lit.int .i64 t1).wf = true) (wk1 : (Lit.int .i64 k1).wf = true) (w : World) :
    Calls Try.prog 4 #[nt o0 t0 k0, nt o1 t1 k1] w fun e w' => e = .returned (.bool true) ∧ Below w.heap.size w w' := by
  have hmx : Try.prog.follows .mixedOrders = true := by kernel_rfl
  have hp := reply_any o0 t0 k0
  have hal := alive_any
  have hj0 : JL w [(w.heap.size, o0, t0, k0), (w.heap.size + 1, o1, t1, k1)] ((w.alloc (.cells #[.int .i64 o0, .int .i64 t0, .int .i64 k0] 23)).alloc (.cells #[.int .i64 o1, .int .i64 t1, .int .i64 k1] 23)) := by simpa using ((JL.nil w).new o0 t0 k0).new o1 t1 k1
  unfold rpV at hp
  by_cases h1 : rk t0 k0 = -1 ∨ k0 ≠ 2
  · rw [if_pos h1] at hp
    clear h1
    unfold nt at *
    go_enter Try.func4, Try.ntmps4
    go_wp2_with (first | (go_at_call 12; (with_reducible refine (hp _).mono ?_); rintro e u1 ⟨rfl, hb1⟩; have hj1 : JL w [(w.heap.size, o0, t0, k0), (w.heap.size + 1, o1, t1, k1), (u1.heap.size, 0, 0, 0)] (u1.alloc (.cells #[.int .i64 0, .int .i64 0, .int .i64 0] 23)) := (by simpa using (hj0.carry hb1).new 0 0 0); have y0 := ((hj0.carry hb1).get 0 rfl).c0; have y1 := ((hj0.carry hb1).get 0 rfl).c1; have y2 := ((hj0.carry hb1).get 0 rfl).c2; have yl := ((hj0.carry hb1).get 0 rfl).lt; have z0 := ((hj0.carry hb1).get 1 rfl).c0; have z1 := ((hj0.carry hb1).get 1 rfl).c1; have z2 := ((hj0.carry hb1).get 1 rfl).c2; have zl := ((hj0.carry hb1).get 1 rfl).lt; have zz := ((hj0.carry hb1).get 1 rfl).thaw 0) | (go_at_call 10; (with_reducible refine (hal _).mono ?_); rintro e u2 ⟨rfl, hb2⟩; have hj2 : JL w [(w.heap.size, o0, t0, k0), (w.heap.size + 1, o1, t1, k1), (u1.heap.size, 0, 0, 0)] u2 := (hj1).carry hb2; have x0a := (hj2.get 0 rfl).c0; have x0b := (hj2.get 0 rfl).c1; have x0c := (hj2.get 0 rfl).c2; have x0l := (hj2.get 0 rfl).lt; have x1a := (hj2.get 1 rfl).c0; have x1b := (hj2.get 1 rfl).c1; have x1c := (hj2.get 1 rfl).c2; have x1l := (hj2.get 1 rfl).lt; have x2a := (hj2.get 2 rfl).c0; have x2b := (hj2.get 2 rfl).c1; have x2c := (hj2.get 2 rfl).c2; have x2l := (hj2.get 2 rfl).lt))
    go_ret
    exact ⟨rfl, hj2.below⟩
  rw [if_neg h1] at hp
  by_cases h2 : t0 = 1048576
  · rw [if_pos h2] at hp
    clear h1 h2
    unfold nt at *
    go_enter Try.func4, Try.ntmps4
    go_wp2_with (first | (go_at_call 12; (with_reducible refine (hp _).mono ?_); rintro e u1 ⟨rfl, hb1⟩; have hj1 : JL w [(w.heap.size, o0, t0, k0), (w.heap.size + 1, o1, t1, k1), (u1.heap.size, 0, 0, 0)] (u1.alloc (.cells #[.int .i64 0, .int .i64 0, .int .i64 0] 23)) := (by simpa using (hj0.carry hb1).new 0 0 0); have y0 := ((hj0.carry hb1).get 0 rfl).c0; have y1 := ((hj0.carry hb1).get 0 rfl).c1; have y2 := ((hj0.carry hb1).get 0 rfl).c2; have yl := ((hj0.carry hb1).get 0 rfl).lt; have z0 := ((hj0.carry hb1).get 1 rfl).c0; have z1 := ((hj0.carry hb1).get 1 rfl).c1; have z2 := ((hj0.carry hb1).get 1 rfl).c2; have zl := ((hj0.carry hb1).get 1 rfl).lt; have zz := ((hj0.carry hb1).get 1 rfl).thaw 0) | (go_at_call 10; (with_reducible refine (hal _).mono ?_); rintro e u2 ⟨rfl, hb2⟩; have hj2 : JL w [(w.heap.size, o0, t0, k0), (w.heap.size + 1, o1, t1, k1), (u1.heap.size, 0, 0, 0)] u2 := (hj1).carry hb2; have x0a := (hj2.get 0 rfl).c0; have x0b := (hj2.get 0 rfl).c1; have x0c := (hj2.get 0 rfl).c2; have x0l := (hj2.get 0 rfl).lt; have x1a := (hj2.get 1 rfl).c0; have x1b := (hj2.get 1 rfl).c1; have x1c := (hj2.get 1 rfl).c2; have x1l := (hj2.get 1 rfl).lt; have x2a := (hj2.get 2 rfl).c0; have x2b := (hj2.get 2 rfl).c1; have x2c := (hj2.get 2 rfl).c2; have x2l := (hj2.get 2 rfl).lt))
    go_ret
    exact ⟨rfl, hj2.below⟩
  rw [if_neg h2] at hp
  have h3 : k0 = 2 := by
    by_cases h : k0 = 2
    · exact h
    · exact absurd (.inr h) h1
  subst h3
  have hr : rk t0 2 ≠ -1 := fun e => h1 (.inl e)
  have ht : ¬ (t0 < 0 ∨ 1048576 < t0) := fun h => hr (rk_lo h)
  have ht1 : ¬ (t0 + 1 < 0 ∨ 1048576 < t0 + 1) := by omega
  have hY := beats_any o0 (t0 + 1) 1 o0 t0 2
  have hM := beats_any o0 t0 2 o0 t0 1
  have eY : bt o0 (t0 + 1) 1 o0 t0 2 = true := decide_eq_true ⟨rfl, by rw [rk_m ht1]; omega, by rw [rk_s ht]; omega, by rw [rk_m ht1, rk_s ht]; omega⟩
  have eM : bt o0 t0 2 o0 t0 1 = true := decide_eq_true ⟨rfl, by rw [rk_s ht]; omega, by rw [rk_m ht]; omega, by rw [rk_m ht, rk_s ht]; omega⟩
  rw [eY] at hY
  rw [eM] at hM
  have hB1 := beats_any o0 t1 k1 o0 t0 2
  have hB2 := beats_any o0 (t0 + 1) 1 o0 t1 k1
  clear h1 eY eM
  cases hv : bt o0 t1 k1 o0 t0 2 with
  | false =>
    rw [hv] at hB1
    clear hv
    unfold nt at hp hB1 hB2
    go_enter Try.func4, Try.ntmps4
    unfold nt
    go_wp2_with (first | (go_at_call 12; (with_reducible refine (hp _).mono ?_); rintro e u1 ⟨rfl, hb1⟩; have hj1 : JL w [(w.heap.size, o0, t0, 2), (w.heap.size + 1, o1, t1, k1), (u1.heap.size, o0, t0 + 1, 1)] (u1.alloc (.cells #[.int .i64 o0, .int .i64 (t0 + 1), .int .i64 1] 23)) := (by simpa using (hj0.carry hb1).new o0 (t0 + 1) 1); have y0 := ((hj0.carry hb1).get 0 rfl).c0; have y1 := ((hj0.carry hb1).get 0 rfl).c1; have y2 := ((hj0.carry hb1).get 0 rfl).c2; have yl := ((hj0.carry hb1).get 0 rfl).lt; have z0 := ((hj0.carry hb1).get 1 rfl).c0; have z1 := ((hj0.carry hb1).get 1 rfl).c1; have z2 := ((hj0.carry hb1).get 1 rfl).c2; have zl := ((hj0.carry hb1).get 1 rfl).lt; have zz := ((hj0.carry hb1).get 1 rfl).thaw 0) | (go_at_call 11; (with_reducible refine (hB1 _).mono ?_); rintro e u2 ⟨rfl, hb2⟩; have hj2 : JL w [(w.heap.size, o0, t0, 2), (w.heap.size + 1, o0, t1, k1), (u1.heap.size, o0, t0 + 1, 1)] u2 := (show JL w [(w.heap.size, o0, t0, 2), (w.heap.size + 1, o0, t1, k1), (u1.heap.size, o0, t0 + 1, 1)] ((u1.setCell ⟨w.heap.size + 1, 0, none⟩ (.int .i64 o0)).alloc (.cells #[.int .i64 o0, .int .i64 (t0 + 1), .int .i64 1] 23)) from (by simpa [size_setCell] using ((hj0.carry hb1).set2 (by omega) (by omega) o0).new o0 (t0 + 1) 1)).carry hb2; have x0a := (hj2.get 0 rfl).c0; have x0b := (hj2.get 0 rfl).c1; have x0c := (hj2.get 0 rfl).c2; have x0l := (hj2.get 0 rfl).lt; have x1a := (hj2.get 1 rfl).c0; have x1b := (hj2.get 1 rfl).c1; have x1c := (hj2.get 1 rfl).c2; have x1l := (hj2.get 1 rfl).lt; have x2a := (hj2.get 2 rfl).c0; have x2b := (hj2.get 2 rfl).c1; have x2c := (hj2.get 2 rfl).c2; have x2l := (hj2.get 2 rfl).lt))
    have hjm : JL w [(w.heap.size, o0, t0, 2), (w.heap.size + 1, o0, t1, k1), (u1.heap.size, o0, t0 + 1, 1), (u2.heap.size, o0, t0, 1)] (u2.alloc (.cells #[.int .i64 o0, .int .i64 t0, .int .i64 1] 23)) := by simpa using hj2.new o0 t0 1
    rename_i Q0 K0 hK
    refine wp_region_any hmx ?_
    refine wpAny_pure (fun i__ => ([(.bool true), (.bool true), (nt o0 (t0 + 1) 1), (nt o0 t0 2), (.bool true), (.bool true), (.bool true), (nt o0 t0 2), (nt o0 t0 1), (.bool true), (.bool true), (.bool true), (nt o0 (t0 + 1) 1), (.int .i64 (rk (t0 + 1) 1)), (nt o0 t0 2), (.int .i64 (rk t0 2)), (.int .i64 (2 * t0 + 2)), (.bool true), (.bool true), (.bool true), (.pointer (some ⟨u1.heap.size, 0, none⟩)), (.int .i64 o0), (.pointer (some ⟨w.heap.size, 0, none⟩)), (.int .i64 o0), (.bool true), (.bool true), (.bool true), (.pointer (some ⟨u1.heap.size, 2, none⟩)), (.int .i64 1), (.bool true), (.bool true), (.bool true)] : List Value).getD i__ undef) (fun W => JL w [(w.heap.size, o0, t0, 2), (w.heap.size + 1, o0, t1, k1), (u1.heap.size, o0, t0 + 1, 1), (u2.heap.size, o0, t0, 1)] W) (by kernel_rfl) (hjm.carry (Below.refl _ _).drew) ?_ ?_
    · refine (stepsFrom_cons ?_ (stepsFrom_cons ?_ (stepsFrom_cons ?_ (stepsFrom_cons ?_ (stepsFrom_cons ?_ (stepsFrom_cons ?_ (stepsFrom_cons ?_ (stepsFrom_cons ?_ (stepsFrom_cons ?_ (stepsFrom_cons ?_ (stepsFrom_cons ?_ (stepsFrom_cons ?_ (stepsFrom_cons ?_ (stepsFrom_cons ?_ (stepsFrom_cons ?_ (stepsFrom_cons ?_ (stepsFrom_cons ?_ (stepsFrom_cons ?_ (stepsFrom_cons ?_ (stepsFrom_cons ?_ (stepsFrom_cons ?_ (stepsFrom_cons ?_ (stepsFrom_cons ?_ (stepsFrom_cons ?_ (stepsFrom_cons ?_ (stepsFrom_cons ?_ (stepsFrom_cons ?_ (stepsFrom_cons ?_ (stepsFrom_cons ?_ (stepsFrom_cons ?_ (stepsFrom_cons ?_ (stepsFrom_cons ?_ trivial))))))))))))))))))))))))))))))))
      · exact step_call rfl trivial 10 _ _ [] rfl (by kernel_rfl) (enters_of Try.func10 (by kernel_rfl) rfl) (fun w hw => (alive_any w).mono (by rintro e w' ⟨rfl, hb⟩; exact ⟨rfl, hw.carry hb⟩))
      · exact step_move rfl trivial _ rfl (by kernel_rfl)
      · exact step_load rfl (by exact ⟨_, rfl, by kernel_rfl⟩) _ _ _ rfl rfl (fun w hw => load_nt (hw.get 2 rfl))
      · exact step_load rfl (by exact ⟨_, rfl, by kernel_rfl⟩) _ _ _ rfl rfl (fun w hw => load_nt (hw.get 0 rfl))
      · exact step_call rfl (by exact ⟨_, rfl, by kernel_rfl⟩) 11 _ _ [(nt o0 (t0 + 1) 1), (nt o0 t0 2)] rfl (by kernel_rfl) (enters_of Try.func11 (by kernel_rfl) rfl) (fun w hw => (hY w).mono (by rintro e w' ⟨rfl, hb⟩; exact ⟨rfl, hw.carry hb⟩))
      · exact step_pick rfl trivial _ _ _ true rfl (by kernel_rfl) (by kernel_rfl)
      · exact step_move rfl trivial _ rfl (by kernel_rfl)
      · exact step_load rfl (by exact ⟨_, rfl, by kernel_rfl⟩) _ _ _ rfl rfl (fun w hw => load_nt (hw.get 0 rfl))
      · exact step_load rfl (by exact ⟨_, rfl, by kernel_rfl⟩) _ _ _ rfl rfl (fun w hw => load_nt (hw.get 3 rfl))
      · exact step_call rfl (by exact ⟨_, rfl, by kernel_rfl⟩) 11 _ _ [(nt o0 t0 2), (nt o0 t0 1)] rfl (by kernel_rfl) (enters_of Try.func11 (by kernel_rfl) rfl) (fun w hw => (hM w).mono (by rintro e w' ⟨rfl, hb⟩; exact ⟨rfl, hw.carry hb⟩))
      · exact step_pick rfl trivial _ _ _ true rfl (by kernel_rfl) (by kernel_rfl)
      · exact step_move rfl trivial _ rfl (by kernel_rfl)
      · exact step_load rfl (by exact ⟨_, rfl, by kernel_rfl⟩) _ _ _ rfl rfl (fun w hw => load_nt (hw.get 2 rfl))
      · exact step_call rfl (by exact ⟨_, rfl, by kernel_rfl⟩) 8 _ _ [(nt o0 (t0 + 1) 1)] rfl (by kernel_rfl) (enters_of Try.func8 (by kernel_rfl) rfl) (fun w hw => (rank_any o0 (t0 + 1) 1 w).mono (by rintro e w' ⟨rfl, hb⟩; exact ⟨rfl, hw.carry hb⟩))
      · exact step_load rfl (by exact ⟨_, rfl, by kernel_rfl⟩) _ _ _ rfl rfl (fun w hw => load_nt (hw.get 0 rfl))
      · exact step_call rfl (by exact ⟨_, rfl, by kernel_rfl⟩) 8 _ _ [(nt o0 t0 2)] rfl (by kernel_rfl) (enters_of Try.func8 (by kernel_rfl) rfl) (fun w hw => (rank_any o0 t0 2 w).mono (by rintro e w' ⟨rfl, hb⟩; exact ⟨rfl, hw.carry hb⟩))
      · exact step_binOp rfl (by exact ⟨_, rfl, by kernel_rfl⟩) _ _ _ _ _ _ _ rfl rfl rfl (fun w hw => bin_add64 _ _ _ (by rw [rk_s ht]; simp only [IntKind.wrap_i64]; omega))
      · exact step_binOp rfl (by exact ⟨_, rfl, by kernel_rfl⟩) _ _ _ _ _ _ _ rfl rfl rfl (fun w hw => (bin_eql .i64 _ _).trans (by rw [rk_m ht1]; simp; omega))
      · exact step_pick rfl trivial _ _ _ true rfl (by kernel_rfl) (by kernel_rfl)
      · exact step_move rfl trivial _ rfl (by kernel_rfl)
      · exact step_fieldAddr rfl (by exact ⟨_, rfl, by kernel_rfl⟩) _ _ _ _ rfl rfl (fun w hw => field_n0 w _)
      · exact step_load rfl (by exact ⟨_, rfl, by kernel_rfl⟩) _ _ _ rfl rfl (fun w hw => load_n0 (hw.get 2 rfl))
      · exact step_fieldAddr rfl (by exact ⟨_, rfl, by kernel_rfl⟩) _ _ _ _ rfl rfl (fun w hw => field_n0 w _)
      · exact step_load rfl (by exact ⟨_, rfl, by kernel_rfl⟩) _ _ _ rfl rfl (fun w hw => load_n0 (hw.get 0 rfl))
      · exact step_binOp rfl (by exact ⟨_, rfl, by kernel_rfl⟩) _ _ _ _ _ _ _ rfl rfl rfl (fun w hw => (bin_eql .i64 _ _).trans (by simp))
      · exact step_pick rfl trivial _ _ _ true rfl (by kernel_rfl) (by kernel_rfl)
      · exact step_move rfl trivial _ rfl (by kernel_rfl)
      · exact step_fieldAddr rfl (by exact ⟨_, rfl, by kernel_rfl⟩) _ _ _ _ rfl rfl (fun w hw => field_n2 w _)
      · exact step_load rfl (by exact ⟨_, rfl, by kernel_rfl⟩) _ _ _ rfl rfl (fun w hw => load_n2 (hw.get 2 rfl))
      · exact step_binOp rfl (by exact ⟨_, rfl, by kernel_rfl⟩) _ _ _ _ _ _ _ rfl rfl rfl (fun w hw => (bin_eql .i64 _ _).trans (by simp))
      · exact step_pick rfl trivial _ _ _ true rfl (by kernel_rfl) (by kernel_rfl)
      · exact step_assign rfl trivial _ rfl (by kernel_rfl) (fun _ h => h)
    intro W hW
    first | refine hK _ _ ?_ | refine (‹∀ (a : Act) (w : World), Code.wp Try.prog _ _ a w → _›) _ _ ?_
    simp only [finL, List.getD_cons_zero, List.getD_cons_succ, Nat.zero_add, Nat.reduceAdd, List.setIfInBounds_toArray, List.set_cons_zero, List.set_cons_succ]
    go_wp2
    go_ret
    exact ⟨rfl, hW.below⟩
  | true =>
    have e2 : bt o0 (t0 + 1) 1 o0 t1 k1 = false := by
      have hq := (of_decide_eq_true hv).2.2.2
      refine decide_eq_false fun h => ?_
      have hz := h.2.2.2
      rw [rk_m ht1] at hz
      rw [rk_s ht] at hq
      omega
    rw [hv] at hB1
    rw [e2] at hB2
    clear hv e2
    unfold nt at hp hB1 hB2
    go_enter Try.func4, Try.ntmps4
    unfold nt
    go_wp2_with (first | (go_at_call 12; (with_reducible refine (hp _).mono ?_); rintro e u1 ⟨rfl, hb1⟩; have hj1 : JL w [(w.heap.size, o0, t0, 2), (w.heap.size + 1, o1, t1, k1), (u1.heap.size, o0, t0 + 1, 1)] (u1.alloc (.cells #[.int .i64 o0, .int .i64 (t0 + 1), .int .i64 1] 23)) := (by simpa using (hj0.carry hb1).new o0 (t0 + 1) 1); have y0 := ((hj0.carry hb1).get 0 rfl).c0; have y1 := ((hj0.carry hb1).get 0 rfl).c1; have y2 := ((hj0.carry hb1).get 0 rfl).c2; have yl := ((hj0.carry hb1).get 0 rfl).lt; have z0 := ((hj0.carry hb1).get 1 rfl).c0; have z1 := ((hj0.carry hb1).get 1 rfl).c1; have z2 := ((hj0.carry hb1).get 1 rfl).c2; have zl := ((hj0.carry hb1).get 1 rfl).lt; have zz := ((hj0.carry hb1).get 1 rfl).thaw 0) | (go_at_call 11; (with_reducible refine (hB1 _).mono ?_); rintro e u2 ⟨rfl, hb2⟩; have hj2 : JL w [(w.heap.size, o0, t0, 2), (w.heap.size + 1, o0, t1, k1), (u1.heap.size, o0, t0 + 1, 1)] u2 := (show JL w [(w.heap.size, o0, t0, 2), (w.heap.size + 1, o0, t1, k1), (u1.heap.size, o0, t0 + 1, 1)] ((u1.setCell ⟨w.heap.size + 1, 0, none⟩ (.int .i64 o0)).alloc (.cells #[.int .i64 o0, .int .i64 (t0 + 1), .int .i64 1] 23)) from (by simpa [size_setCell] using ((hj0.carry hb1).set2 (by omega) (by omega) o0).new o0 (t0 + 1) 1)).carry hb2; have x0a := (hj2.get 0 rfl).c0; have x0b := (hj2.get 0 rfl).c1; have x0c := (hj2.get 0 rfl).c2; have x0l := (hj2.get 0 rfl).lt; have x1a := (hj2.get 1 rfl).c0; have x1b := (hj2.get 1 rfl).c1; have x1c := (hj2.get 1 rfl).c2; have x1l := (hj2.get 1 rfl).lt; have x2a := (hj2.get 2 rfl).c0; have x2b := (hj2.get 2 rfl).c1; have x2c := (hj2.get 2 rfl).c2; have x2l := (hj2.get 2 rfl).lt) | (go_at_call 11; (with_reducible refine (hB2 _).mono ?_); rintro e u3 ⟨rfl, hb3⟩; have hj3 : JL w [(w.heap.size, o0, t0, 2), (w.heap.size + 1, o0, t1, k1), (u1.heap.size, o0, t0 + 1, 1)] u3 := (hj2).carry hb3; have x0a := (hj3.get 0 rfl).c0; have x0b := (hj3.get 0 rfl).c1; have x0c := (hj3.get 0 rfl).c2; have x0l := (hj3.get 0 rfl).lt))
    have hjm : JL w [(w.heap.size, o0, t0, 2), (w.heap.size + 1, o0, t1, k1), (u1.heap.size, o0, t0 + 1, 1), (u3.heap.size, o0, t0, 1)] (u3.alloc (.cells #[.int .i64 o0, .int .i64 t0, .int .i64 1] 23)) := by simpa using hj3.new o0 t0 1
    rename_i Q0 K0 hK
    refine wp_region_any hmx ?_
    refine wpAny_pure (fun i__ => ([(.bool true), (.bool true), (nt o0 (t0 + 1) 1), (nt o0 t0 2), (.bool true), (.bool true), (.bool true), (nt o0 t0 2), (nt o0 t0 1), (.bool true), (.bool true), (.bool true), (nt o0 (t0 + 1) 1), (.int .i64 (rk (t0 + 1) 1)), (nt o0 t0 2), (.int .i64 (rk t0 2)), (.int .i64 (2 * t0 + 2)), (.bool true), (.bool true), (.bool true), (.pointer (some ⟨u1.heap.size, 0, none⟩)), (.int .i64 o0), (.pointer (some ⟨w.heap.size, 0, none⟩)), (.int .i64 o0), (.bool true), (.bool true), (.bool true), (.pointer (some ⟨u1.heap.size, 2, none⟩)), (.int .i64 1), (.bool true), (.bool true), (.bool true)] : List Value).getD i__ undef) (fun W => JL w [(w.heap.size, o0, t0, 2), (w.heap.size + 1, o0, t1, k1), (u1.heap.size, o0, t0 + 1, 1), (u3.heap.size, o0, t0, 1)] W) (by kernel_rfl) (hjm.carry (Below.refl _ _).drew) ?_ ?_
    · refine (stepsFrom_cons ?_ (stepsFrom_cons ?_ (stepsFrom_cons ?_ (stepsFrom_cons ?_ (stepsFrom_cons ?_ (stepsFrom_cons ?_ (stepsFrom_cons ?_ (stepsFrom_cons ?_ (stepsFrom_cons ?_ (stepsFrom_cons ?_ (stepsFrom_cons ?_ (stepsFrom_cons ?_ (stepsFrom_cons ?_ (stepsFrom_cons ?_ (stepsFrom_cons ?_ (stepsFrom_cons ?_ (stepsFrom_cons ?_ (stepsFrom_cons ?_ (stepsFrom_cons ?_ (stepsFrom_cons ?_ (stepsFrom_cons ?_ (stepsFrom_cons ?_ (stepsFrom_cons ?_ (stepsFrom_cons ?_ (stepsFrom_cons ?_ (stepsFrom_cons ?_ (stepsFrom_cons ?_ (stepsFrom_cons ?_ (stepsFrom_cons ?_ (stepsFrom_cons ?_ (stepsFrom_cons ?_ (stepsFrom_cons ?_ trivial))))))))))))))))))))))))))))))))
      · exact step_call rfl trivial 10 _ _ [] rfl (by kernel_rfl) (enters_of Try.func10 (by kernel_rfl) rfl) (fun w hw => (alive_any w).mono (by rintro e w' ⟨rfl, hb⟩; exact ⟨rfl, hw.carry hb⟩))
      · exact step_move rfl trivial _ rfl (by kernel_rfl)
      · exact step_load rfl (by exact ⟨_, rfl, by kernel_rfl⟩) _ _ _ rfl rfl (fun w hw => load_nt (hw.get 2 rfl))
      · exact step_load rfl (by exact ⟨_, rfl, by kernel_rfl⟩) _ _ _ rfl rfl (fun w hw => load_nt (hw.get 0 rfl))
      · exact step_call rfl (by exact ⟨_, rfl, by kernel_rfl⟩) 11 _ _ [(nt o0 (t0 + 1) 1), (nt o0 t0 2)] rfl (by kernel_rfl) (enters_of Try.func11 (by kernel_rfl) rfl) (fun w hw => (hY w).mono (by rintro e w' ⟨rfl, hb⟩; exact ⟨rfl, hw.carry hb⟩))
      · exact step_pick rfl trivial _ _ _ true rfl (by kernel_rfl) (by kernel_rfl)
      · exact step_move rfl trivial _ rfl (by kernel_rfl)
      · exact step_load rfl (by exact ⟨_, rfl, by kernel_rfl⟩) _ _ _ rfl rfl (fun w hw => load_nt (hw.get 0 rfl))
      · exact step_load rfl (by exact ⟨_, rfl, by kernel_rfl⟩) _ _ _ rfl rfl (fun w hw => load_nt (hw.get 3 rfl))
      · exact step_call rfl (by exact ⟨_, rfl, by kernel_rfl⟩) 11 _ _ [(nt o0 t0 2), (nt o0 t0 1)] rfl (by kernel_rfl) (enters_of Try.func11 (by kernel_rfl) rfl) (fun w hw => (hM w).mono (by rintro e w' ⟨rfl, hb⟩; exact ⟨rfl, hw.carry hb⟩))
      · exact step_pick rfl trivial _ _ _ true rfl (by kernel_rfl) (by kernel_rfl)
      · exact step_move rfl trivial _ rfl (by kernel_rfl)
      · exact step_load rfl (by exact ⟨_, rfl, by kernel_rfl⟩) _ _ _ rfl rfl (fun w hw => load_nt (hw.get 2 rfl))
      · exact step_call rfl (by exact ⟨_, rfl, by kernel_rfl⟩) 8 _ _ [(nt o0 (t0 + 1) 1)] rfl (by kernel_rfl) (enters_of Try.func8 (by kernel_rfl) rfl) (fun w hw => (rank_any o0 (t0 + 1) 1 w).mono (by rintro e w' ⟨rfl, hb⟩; exact ⟨rfl, hw.carry hb⟩))
      · exact step_load rfl (by exact ⟨_, rfl, by kernel_rfl⟩) _ _ _ rfl rfl (fun w hw => load_nt (hw.get 0 rfl))
      · exact step_call rfl (by exact ⟨_, rfl, by kernel_rfl⟩) 8 _ _ [(nt o0 t0 2)] rfl (by kernel_rfl) (enters_of Try.func8 (by kernel_rfl) rfl) (fun w hw => (rank_any o0 t0 2 w).mono (by rintro e w' ⟨rfl, hb⟩; exact ⟨rfl, hw.carry hb⟩))
      · exact step_binOp rfl (by exact ⟨_, rfl, by kernel_rfl⟩) _ _ _ _ _ _ _ rfl rfl rfl (fun w hw => bin_add64 _ _ _ (by rw [rk_s ht]; simp only [IntKind.wrap_i64]; omega))
      · exact step_binOp rfl (by exact ⟨_, rfl, by kernel_rfl⟩) _ _ _ _ _ _ _ rfl rfl rfl (fun w hw => (bin_eql .i64 _ _).trans (by rw [rk_m ht1]; simp; omega))
      · exact step_pick rfl trivial _ _ _ true rfl (by kernel_rfl) (by kernel_rfl)
      · exact step_move rfl trivial _ rfl (by kernel_rfl)
      · exact step_fieldAddr rfl (by exact ⟨_, rfl, by kernel_rfl⟩) _ _ _ _ rfl rfl (fun w hw => field_n0 w _)
      · exact step_load rfl (by exact ⟨_, rfl, by kernel_rfl⟩) _ _ _ rfl rfl (fun w hw => load_n0 (hw.get 2 rfl))
      · exact step_fieldAddr rfl (by exact ⟨_, rfl, by kernel_rfl⟩) _ _ _ _ rfl rfl (fun w hw => field_n0 w _)
      · exact step_load rfl (by exact ⟨_, rfl, by kernel_rfl⟩) _ _ _ rfl rfl (fun w hw => load_n0 (hw.get 0 rfl))
      · exact step_binOp rfl (by exact ⟨_, rfl, by kernel_rfl⟩) _ _ _ _ _ _ _ rfl rfl rfl (fun w hw => (bin_eql .i64 _ _).trans (by simp))
      · exact step_pick rfl trivial _ _ _ true rfl (by kernel_rfl) (by kernel_rfl)
      · exact step_move rfl trivial _ rfl (by kernel_rfl)
      · exact step_fieldAddr rfl (by exact ⟨_, rfl, by kernel_rfl⟩) _ _ _ _ rfl rfl (fun w hw => field_n2 w _)
      · exact step_load rfl (by exact ⟨_, rfl, by kernel_rfl⟩) _ _ _ rfl rfl (fun w hw => load_n2 (hw.get 2 rfl))
      · exact step_binOp rfl (by exact ⟨_, rfl, by kernel_rfl⟩) _ _ _ _ _ _ _ rfl rfl rfl (fun w hw => (bin_eql .i64 _ _).trans (by simp))
      · exact step_pick rfl trivial _ _ _ true rfl (by kernel_rfl) (by kernel_rfl)
      · exact step_assign rfl trivial _ rfl (by kernel_rfl) (fun _ h => h)
    intro W hW
    first | refine hK _ _ ?_ | refine (‹∀ (a : Act) (w : World), Code.wp Try.prog _ _ a w → _›) _ _ ?_
    simp only [finL, List.getD_cons_zero, List.getD_cons_succ, Nat.zero_add, Nat.reduceAdd, List.setIfInBounds_toArray, List.set_cons_zero, List.set_cons_succ]
    go_wp2
    go_ret
    exact ⟨rfl, hW.below⟩

set_option maxRecDepth 100000 in
theorem lifted (os : Os) (started : os.Started) (H : Type) (enc : TypeId × Value → H) :
    ReturnsInHanded {} Try.checked os 4 .any (Rows.noticeRepliesSpec.pre6 enc Try.prog Try.f4 Rows.noticeRepliesRow.domain false) (Rows.noticeRepliesSpec.post enc Try.prog Try.f4 false true false false) := by
  refine returnsInHanded_of_change (C := Try.checked) own started (by kernel_rfl) Try.func4
    (ChangeSpec.witness6 (enc := enc) (C := Try.checked) false ⟨#[], #[.agg #[.int .i64 0, .int .i64 0, .int .i64 0], .agg #[.int .i64 0, .int .i64 0, .int .i64 0]], []⟩ 8 (by kernel_rfl) (by kernel_rfl) (by kernel_rfl) (by kernel_rfl)) ?_
  intro W base args ds gs before hval0 hW hcnd _
  have hval : ∀ (j : Nat) t v, Try.f4.params[j]? = some t → args[j]? = some v → Value.okWide Try.prog W .any base t v := hval0
  have hW' := hW
  obtain ⟨p, q, hA0, hV, rfl, hfz, hnd⟩ := hW
  have hA : DataW.TrodAll enc Try.prog W 0 (fun _ => true) true Try.f4.params.toList args.toList ds p := hA0
  rw [Try.params4] at hA hval
  obtain ⟨v0, vs0, d0, ds0, p0, q0, hargs, rfl, rfl, h0, r0⟩ := trodAll_cons hA
  obtain ⟨v1, vs1, d1, ds1, p1, q1, rfl, rfl, rfl, h1, r1⟩ := trodAll_cons r0
  obtain ⟨rfl, rfl, rfl⟩ := trodAll_nil r1
  obtain rfl : args = #[v0, v1] := by cases args; simp_all
  obtain ⟨rfl, rfl⟩ := trodVars_none hV
  obtain ⟨o0, t0, k0, rfl, rfl, rfl, wo0, wt0, wk0⟩ := open_nt (hval 0 23 v0 rfl rfl) h0
  obtain ⟨o1, t1, k1, rfl, rfl, rfl, wo1, wt1, wk1⟩ := open_nt (hval 1 23 v1 rfl rfl) h1
  clear hA0 hval0
  simp only [List.append_nil] at hW'
  refine (walk o0 t0 k0 wo0 wt0 wk0 o1 t1 k1 wo1 wt1 wk1 W).mono fun e W' ⟨he, hg⟩ => ?_
  subst he
  exact ⟨_, rfl, _, _, _, [], _, [], hW', (trodAll_cons_mk (shut_bool Try.underlying4 _) trodAll_mk0), (trodAll_cons_mk (shut_nt wo0 wt0 wk0) (trodAll_cons_mk (shut_nt wo1 wt1 wk1) trodAll_mk0)), rfl, hg.frame _, fun h => by cases h⟩

theorem over : Rows.noticeRepliesRow.holds Try.pinned (OpenSpec.ofChange Rows.noticeRepliesSpec) :=
  OpenClaim.holds_of_wide 4 Try.f4 rfl rfl rfl rfl rfl rfl rfl ⟨rfl, rfl, rfl, rfl, rfl⟩ rfl rfl rfl rfl rfl (by kernel_rfl) Try.func4 (by kernel_rfl)
    (of_decide_eq_true (by kernel_rfl)) (by unfold Func.isWrapper; first | (rw [if_pos (by decide +kernel)]; kernel_rfl) | (rw [if_neg (by decide +kernel)]; exact ⟨rfl, rfl⟩))
    (fun os started H enc _ => lifted os started H enc)

theorem proved : Rows.NoticeRepliesSaid :=
  over
#print axioms proved
end Go.Proofs.Ytebpngapkkdifaa
