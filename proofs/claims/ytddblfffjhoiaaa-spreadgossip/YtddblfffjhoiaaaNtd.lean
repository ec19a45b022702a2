/- notice's rivals, Beats, Max, Fresh, Reply, Valid: what they answer, at every notice. -/
import Derived.Test.YtddblfffjhoiaaaNtr
import Derived.Test.YtddblfffjhoiaaaBin
import Derived.Test.YtddblfffjhoiaaaRgf
namespace Go.Proofs.Ytddblfffjhoiaaa
open Go.RowKit Go.Shelf

theorem rk_ok {t k : Int} : rk t k ≠ -1 ↔ 0 ≤ t ∧ t ≤ 1048576 ∧ (k = 1 ∨ k = 2) := by
  unfold rk
  by_cases h : t < 0 ∨ 1048576 < t
  · rw [if_pos h]; omega
  · rw [if_neg h]
    by_cases k1 : k = 1
    · rw [if_pos k1]; omega
    · rw [if_neg k1]
      by_cases k2 : k = 2
      · rw [if_pos k2]; omega
      · rw [if_neg k2]; omega
theorem rk_neg {t k : Int} : rk t k = -1 ∨ 0 ≤ rk t k := by
  unfold rk
  by_cases h : t < 0 ∨ 1048576 < t
  · rw [if_pos h]; omega
  · rw [if_neg h]
    by_cases k1 : k = 1
    · rw [if_pos k1]; omega
    · rw [if_neg k1]
      by_cases k2 : k = 2
      · rw [if_pos k2]; omega
      · rw [if_neg k2]; omega
theorem rk_inj {t k t' k' : Int} (h : rk t k = rk t' k') (h1 : rk t k ≠ -1) : t = t' ∧ k = k' := by
  unfold rk at h h1
  repeat' split at h
  all_goals (try omega)
  all_goals (simp_all <;> omega)
/-- Have the two an order? -/
def rv (o t k o' t' k' : Int) : Bool := decide (o = o' ∧ rk t k ≠ -1 ∧ rk t' k' ≠ -1)
set_option maxHeartbeats 1000000 in
theorem rivals_any (o t k o' t' k' : Int) (w : World) : Calls Try.prog 35 #[nt o t k, nt o' t' k'] w fun e w' => e = .returned (.bool (rv o t k o' t' k')) ∧ Below w.heap.size w w' := by
  have hr1 := rank_any o t k
  have hr2 := rank_any o' t' k'
  unfold rv
  unfold nt at *
  generalize rk t k = r1 at *
  generalize rk t' k' = r2 at *
  by_cases h0 : o = o'
  · subst h0
    by_cases h1 : r1 = -1
    · go_enter Try.func35, Try.ntmps35
      go_wp2_with (go_at_call 36; (with_reducible refine (hr1 _).mono ?_); rintro e u1 ⟨rfl, hb1⟩)
      go_ret
      exact ⟨by simp [h1], bel2 (((Below.refl _ w).alloc (by simp) _).alloc (by simp) _) hb1⟩
    · go_enter Try.func35, Try.ntmps35
      go_wp2_with (go_at_call 36; first | ((with_reducible refine (hr1 _).mono ?_); rintro e u1 ⟨rfl, hb1⟩; have hn1 : NB u1 (w.heap.size + 1) o t' k' := NB.carry (by unfold NB; exact new_at (by simp)) hb1; have c0 := hn1.c0; have c1 := hn1.c1; have c2 := hn1.c2; have hl1 := hn1.lt) | ((with_reducible refine (hr2 _).mono ?_); rintro e u2 ⟨rfl, hb2⟩))
      go_ret
      exact ⟨by by_cases h2 : r2 = -1 <;> simp [h1, h2], bel2 (bel2 (((Below.refl _ w).alloc (by simp) _).alloc (by simp) _) hb1) hb2⟩
  · go_enter Try.func35, Try.ntmps35
    go_wp2
    go_ret
    exact ⟨by simp [h0], (((Below.refl _ w).alloc (by simp) _).alloc (by simp) _)⟩
/-- Beats the first one? -/
def bt (o t k o' t' k' : Int) : Bool := decide (o = o' ∧ rk t k ≠ -1 ∧ rk t' k' ≠ -1 ∧ rk t' k' < rk t k)
set_option maxHeartbeats 1000000 in
set_option maxRecDepth 100000 in
theorem beats_any (o t k o' t' k' : Int) (w : World) : Calls Try.prog 15 #[nt o t k, nt o' t' k'] w fun e w' => e = .returned (.bool (bt o t k o' t' k')) ∧ Below w.heap.size w w' := by
  have hmx : Try.prog.follows .mixedOrders = true := by kernel_rfl
  have hj0 : JL w [(w.heap.size, o, t, k), (w.heap.size + 1, o', t', k')] ((w.alloc (.cells #[.int .i64 o, .int .i64 t, .int .i64 k] 32)).alloc (.cells #[.int .i64 o', .int .i64 t', .int .i64 k'] 32)) := by
    have := ((JL.nil w).new o t k).new o' t' k'
    simpa using this
  cases h : rv o t k o' t' k' with
  | true =>
    have hb : bt o t k o' t' k' = decide (rk t' k' < rk t k) := by
      unfold rv at h
      unfold bt
      have := of_decide_eq_true h
      simp [this]
    rw [hb]
    have hri := rivals_any o t k o' t' k'
    rw [h] at hri
    go_enter Try.func15, Try.ntmps15
    unfold nt
    go_wp2
    rename_i Q0 K0 hK
    refine wp_region_any hmx ?_
    refine wpAny_pure (fun i__ => ([(nt o t k), (nt (o') (t') (k')), (.bool true), (.bool true), (nt o t k), (.int .i64 (rk t k)), (nt (o') (t') (k')), (.int .i64 (rk (t') (k'))), (.bool (decide (rk t' k' < rk t k))), (.bool (decide (rk t' k' < rk t k))), (.bool (decide (rk t' k' < rk t k)))] : List Value).getD i__ undef) (fun W => JL w [(w.heap.size, o, t, k), (w.heap.size + 1, o', t', k')] W) (by kernel_rfl) (hj0.carry (Below.refl _ _).drew) ?_ ?_
    · refine (stepsFrom_cons ?_ (stepsFrom_cons ?_ (stepsFrom_cons ?_ (stepsFrom_cons ?_ (stepsFrom_cons ?_ (stepsFrom_cons ?_ (stepsFrom_cons ?_ (stepsFrom_cons ?_ (stepsFrom_cons ?_ (stepsFrom_cons ?_ (stepsFrom_cons ?_ trivial)))))))))))
      · exact step_load rfl trivial _ _ _ rfl rfl (fun w hw => load_nt (hw.get 0 rfl))
      · exact step_load rfl trivial _ _ _ rfl rfl (fun w hw => load_nt (hw.get 1 rfl))
      · exact step_call rfl trivial 35 _ _ [(nt o t k), (nt (o') (t') (k'))] rfl (by kernel_rfl) (enters_of Try.func35 (by kernel_rfl) rfl) (fun w hw => (hri w).mono (by rintro e w' ⟨rfl, hb⟩; exact ⟨rfl, hw.carry hb⟩))
      · exact step_move rfl trivial _ rfl (by kernel_rfl)
      · exact step_load rfl (by exact ⟨_, rfl, by kernel_rfl⟩) _ _ _ rfl rfl (fun w hw => load_nt (hw.get 0 rfl))
      · exact step_call rfl (by exact ⟨_, rfl, by kernel_rfl⟩) 36 _ _ [(nt o t k)] rfl (by kernel_rfl) (enters_of Try.func36 (by kernel_rfl) rfl) (fun w hw => (rank_any o t k w).mono (by rintro e w' ⟨rfl, hb⟩; exact ⟨rfl, hw.carry hb⟩))
      · exact step_load rfl (by exact ⟨_, rfl, by kernel_rfl⟩) _ _ _ rfl rfl (fun w hw => load_nt (hw.get 1 rfl))
      · exact step_call rfl (by exact ⟨_, rfl, by kernel_rfl⟩) 36 _ _ [(nt (o') (t') (k'))] rfl (by kernel_rfl) (enters_of Try.func36 (by kernel_rfl) rfl) (fun w hw => (rank_any (o') (t') (k') w).mono (by rintro e w' ⟨rfl, hb⟩; exact ⟨rfl, hw.carry hb⟩))
      · exact step_binOp rfl (by exact ⟨_, rfl, by kernel_rfl⟩) _ _ _ _ _ _ _ rfl rfl rfl (fun w hw => (bin_gtr .i64 _ _).trans rfl)
      · exact step_pick rfl trivial _ _ _ true rfl (by kernel_rfl) (by kernel_rfl)
      · exact step_assign rfl trivial _ rfl (by kernel_rfl) (fun _ h => h)
    intro W hW
    first | refine hK _ _ ?_ | refine (‹∀ (a : Act) (w : World), Code.wp Try.prog _ _ a w → _›) _ _ ?_
    simp only [finL, List.getD_cons_zero, List.getD_cons_succ, Nat.zero_add, Nat.reduceAdd, List.setIfInBounds_toArray, List.set_cons_zero, List.set_cons_succ]
    go_wp2
    go_ret
    exact ⟨rfl, hW.below⟩
  | false =>
    have hb : bt o t k o' t' k' = false := by
      unfold rv at h
      unfold bt
      have h2 := of_decide_eq_false h
      apply decide_eq_false
      intro ⟨a, b, c, _⟩
      exact h2 ⟨a, b, c⟩
    rw [hb]
    have hri := rivals_any o t k o' t' k'
    rw [h] at hri
    go_enter Try.func15, Try.ntmps15
    unfold nt
    go_wp2
    rename_i Q0 K0 hK
    refine wp_region_any hmx ?_
    refine wpAny_pure (fun i__ => ([(nt o t k), (nt (o') (t') (k')), (.bool false), (.bool false), undef, undef, undef, undef, undef, (.bool false), (.bool false)] : List Value).getD i__ undef) (fun W => JL w [(w.heap.size, o, t, k), (w.heap.size + 1, o', t', k')] W) (by kernel_rfl) (hj0.carry (Below.refl _ _).drew) ?_ ?_
    · refine (stepsFrom_cons ?_ (stepsFrom_cons ?_ (stepsFrom_cons ?_ (stepsFrom_cons ?_ (stepsFrom_cons ?_ (stepsFrom_cons ?_ (stepsFrom_cons ?_ (stepsFrom_cons ?_ (stepsFrom_cons ?_ (stepsFrom_cons ?_ (stepsFrom_cons ?_ trivial)))))))))))
      · exact step_load rfl trivial _ _ _ rfl rfl (fun w hw => load_nt (hw.get 0 rfl))
      · exact step_load rfl trivial _ _ _ rfl rfl (fun w hw => load_nt (hw.get 1 rfl))
      · exact step_call rfl trivial 35 _ _ [(nt o t k), (nt (o') (t') (k'))] rfl (by kernel_rfl) (enters_of Try.func35 (by kernel_rfl) rfl) (fun w hw => (hri w).mono (by rintro e w' ⟨rfl, hb⟩; exact ⟨rfl, hw.carry hb⟩))
      · exact step_move rfl trivial _ rfl (by kernel_rfl)
      · exact step_skip rfl 3 true 8 (.bool false) rfl rfl (by kernel_rfl) (by intro h; cases h) rfl
      · exact step_skip rfl 3 true 8 (.bool false) rfl rfl (by kernel_rfl) (by intro h; cases h) rfl
      · exact step_skip rfl 3 true 8 (.bool false) rfl rfl (by kernel_rfl) (by intro h; cases h) rfl
      · exact step_skip rfl 3 true 8 (.bool false) rfl rfl (by kernel_rfl) (by intro h; cases h) rfl
      · exact step_skip rfl 3 true 8 (.bool false) rfl rfl (by kernel_rfl) (by intro h; cases h) rfl
      · exact step_pick rfl trivial _ _ _ false rfl (by kernel_rfl) (by kernel_rfl)
      · exact step_assign rfl trivial _ rfl (by kernel_rfl) (fun _ h => h)
    intro W hW
    first | refine hK _ _ ?_ | refine (‹∀ (a : Act) (w : World), Code.wp Try.prog _ _ a w → _›) _ _ ?_
    simp only [finL, List.getD_cons_zero, List.getD_cons_succ, Nat.zero_add, Nat.reduceAdd, List.setIfInBounds_toArray, List.set_cons_zero, List.set_cons_succ]
    go_wp2
    go_ret
    exact ⟨rfl, hW.below⟩
set_option maxHeartbeats 400000 in
theorem fresh_any (o : Int) (w : World) : Calls Try.prog 42 #[.int .i64 o] w fun e w' => e = .returned (nt o 0 1) ∧ Below w.heap.size w w' := by
  go_enter Try.func42, Try.ntmps42
  go_wp2
  exact retN rfl rfl rfl (new_at rfl) ⟨rfl, (Below.refl _ w).alloc (Nat.le_refl _) _⟩
/-- Is it a notice of one of n nodes? -/
def vl (n o t k : Int) : Bool := decide (1 ≤ n ∧ n ≤ 100 ∧ 0 ≤ o ∧ o < n ∧ rk t k ≠ -1)
set_option maxHeartbeats 1000000 in
theorem valid_any (n o t k : Int) (w : World) : Calls Try.prog 37 #[.int .i64 n, nt o t k] w fun e w' => e = .returned (.bool (vl n o t k)) ∧ Below w.heap.size w w' := by
  have hr1 := rank_any o t k
  unfold vl
  unfold nt at *
  generalize rk t k = r at *
  by_cases h1 : 1 ≤ n ∧ n ≤ 100 ∧ 0 ≤ o ∧ o < n
  · obtain ⟨a1, a2, a3, a4⟩ := h1
    go_enter Try.func37, Try.ntmps37
    go_wp2_with (go_at_call 36; (with_reducible refine (hr1 _).mono ?_); rintro e u1 ⟨rfl, hb1⟩)
    go_ret
    exact ⟨by by_cases h2 : r = -1 <;> simp [*], bel2 ((Below.refl _ w).alloc (by simp) _) hb1⟩
  · have hv : decide (1 ≤ n ∧ n ≤ 100 ∧ 0 ≤ o ∧ o < n ∧ r ≠ -1) = false := decide_eq_false (fun ⟨a, b, c, d, _⟩ => h1 ⟨a, b, c, d⟩)
    rw [hv]
    have h2 : n < 1 ∨ (1 ≤ n ∧ 100 < n) ∨ (1 ≤ n ∧ n ≤ 100 ∧ o < 0) ∨ (1 ≤ n ∧ n ≤ 100 ∧ 0 ≤ o ∧ n ≤ o) := by omega
    clear hv h1
    rcases h2 with h | ⟨h, h'⟩ | ⟨h, h', h''⟩ | ⟨h, h', h'', h3⟩
    all_goals
      go_enter Try.func37, Try.ntmps37
      go_wp2
      go_ret
      exact ⟨rfl, (Below.refl _ w).alloc (by simp) _⟩
end Go.Proofs.Ytddblfffjhoiaaa
