/- The document's answers of chapter 5: what they say, at every notice. -/
import Derived.Test.YtebpngapkkdifaaNtd
namespace Go.Proofs.Ytebpngapkkdifaa
open Go.RowKit Go.Shelf

set_option maxHeartbeats 1000000 in
theorem rRank_any (o t k : Int) (w : World) : Calls Try.prog 17 #[nt o t k] w fun e w' => e = .returned (.int .i64 (rk t k)) ∧ Below w.heap.size w w' := by
  unfold nt
  by_cases h : t < 0 ∨ 1048576 < t
  · rw [rk_lo h]
    rcases h with h | h
    all_goals
      go_enter Try.func17, Try.ntmps17
      go_wp2
      go_ret
      exact ⟨rfl, al1 _ _⟩
  · have h0 : ¬ t < 0 := by omega
    have h1 : ¬ 1048576 < t := by omega
    by_cases k1 : k = 1
    · subst k1
      rw [rk_m h]
      go_enter Try.func17, Try.ntmps17
      go_wp2
      go_ret
      exact ⟨congrArg (fun x => Ending.returned (.int .i64 x)) (show (2 * t : Int) = 2 * t from rfl), al1 _ _⟩
    · by_cases k2 : k = 2
      · subst k2
        rw [rk_s h]
        go_enter Try.func17, Try.ntmps17
        go_wp2
        go_ret
        exact ⟨congrArg (fun x => Ending.returned (.int .i64 x)) (show 2 * t + 2 - 1 = 2 * t + 1 by omega), al1 _ _⟩
      · rw [rk_n k1 k2]
        have hk : (k != 1 && k != 2) = true := by simp [k1, k2]
        go_enter Try.func17, Try.ntmps17
        go_wp2
        go_ret
        exact ⟨rfl, al1 _ _⟩
theorem rk_ok {t k : Int} : rk t k ≠ -1 ↔ 0 ≤ t ∧ t ≤ 1048576 ∧ (k = 1 ∨ k = 2) := by
  unfold rk
  by_cases h : t < 0 ∨ 1048576 < t
  · rw [if_pos h]; omega
  · rw [if_neg h]
    by_cases k1 : k = 1
    · rw [if_pos k1]; omega
    · rw [if_neg k1]
      by_cases k2 : k = 2
      · rw [if_pos k2]; omega
      · rw [if_neg k2]; omega
set_option maxHeartbeats 2000000 in
theorem rValid_any (n o t k : Int) (w : World) : Calls Try.prog 16 #[.int .i64 n, nt o t k] w fun e w' => e = .returned (.bool (vl n o t k)) ∧ Below w.heap.size w w' := by
  by_cases h : 1 ≤ n ∧ n ≤ 100 ∧ 0 ≤ o ∧ o < n ∧ rk t k ≠ -1
  · have hv : vl n o t k = true := decide_eq_true h
    rw [hv]
    obtain ⟨a1, a2, a3, a4, a5⟩ := h
    obtain ⟨a6, a7, a8⟩ := rk_ok.1 a5
    clear hv a5
    unfold nt
    rcases a8 with rfl | rfl
    all_goals
      go_enter Try.func16, Try.ntmps16
      go_wp2
      go_ret
      exact ⟨rfl, al1 _ _⟩
  · have hv : vl n o t k = false := decide_eq_false h
    rw [hv]
    have h2 : n < 1 ∨ (1 ≤ n ∧ 100 < n) ∨ (1 ≤ n ∧ n ≤ 100 ∧ o < 0) ∨ (1 ≤ n ∧ n ≤ 100 ∧ 0 ≤ o ∧ n ≤ o) ∨ (1 ≤ n ∧ n ≤ 100 ∧ 0 ≤ o ∧ o < n ∧ t < 0) ∨ (1 ≤ n ∧ n ≤ 100 ∧ 0 ≤ o ∧ o < n ∧ 0 ≤ t ∧ 1048576 < t) ∨ (1 ≤ n ∧ n ≤ 100 ∧ 0 ≤ o ∧ o < n ∧ 0 ≤ t ∧ t ≤ 1048576 ∧ ¬ k = 1 ∧ ¬ k = 2) := by
      rw [rk_ok] at h
      omega
    clear hv h
    unfold nt
    rcases h2 with a1 | ⟨a1, a2⟩ | ⟨a1, a2, a3⟩ | ⟨a1, a2, a3, a4⟩ | ⟨a1, a2, a3, a4, a5⟩ | ⟨a1, a2, a3, a4, a5, a6⟩ | ⟨a1, a2, a3, a4, a5, a6, a7, a8⟩
    all_goals
      go_enter Try.func16, Try.ntmps16
      go_wp2
      go_ret
      first | exact ⟨rfl, al1 _ _⟩ | exact ⟨(show Ending.returned (.bool (k == 1 || k == 2)) = .returned (.bool false) by simp [a7, a8]), al1 _ _⟩
set_option maxHeartbeats 400000 in
theorem rFresh_any (o : Int) (w : World) : Calls Try.prog 18 #[.int .i64 o] w fun e w' => e = .returned (nt o 0 1) ∧ Below w.heap.size w w' := by
  go_enter Try.func18, Try.ntmps18
  go_wp2
  exact retN rfl rfl rfl (new_at rfl) ⟨rfl, al1 _ _⟩
set_option maxHeartbeats 1000000 in
theorem rReply_any (o t k : Int) (w : World) : Calls Try.prog 14 #[nt o t k] w fun e w' => e = .returned (rpV o t k) ∧ Below w.heap.size w w' := by
  have hr1 := rRank_any o t k
  unfold rpV
  by_cases h1 : rk t k = -1
  · rw [if_pos (.inl h1)]
    rw [h1] at hr1
    unfold nt at hr1
    go_enter Try.func14, Try.ntmps14
    unfold nt
    go_wp2_with (go_at_call 17; (with_reducible refine (hr1 _).mono ?_); rintro e u1 ⟨rfl, hb1⟩; have hn1 : NB u1 (w.heap.size + 1) 0 0 0 := NB.carry (NB.at _ _ _ (by simp)) hb1; have c0 := hn1.c0; have c1 := hn1.c1; have c2 := hn1.c2; have z0 := hn1.thaw 0; have z1 := hn1.thaw 1; have z2 := hn1.thaw 2; have hm1 : NB u1 w.heap.size o t k := NB.carry ((NB.at _ _ _ rfl).old _) hb1; have e0 := hm1.c0; have e1 := hm1.c1; have e2 := hm1.c2)
    exact retNt rfl rfl rfl rfl (hn1.set 0 0 0) ⟨rfl, below3 (bel2 (al2 _ _ _) hb1) (by omega) _ _ _⟩
  · have hr0 : 0 ≤ rk t k := by
      unfold rk at h1 ⊢
      repeat' split at h1
      all_goals (try omega)
      all_goals (repeat' split <;> omega)
    by_cases h2 : k = 2
    · subst h2
      rw [if_neg (by simp [h1])]
      have ht : ¬ (t < 0 ∨ 1048576 < t) := fun h => h1 (rk_lo h)
      generalize rk t 2 = r at *
      unfold nt at hr1
      by_cases h3 : t = 1048576
      · subst h3
        rw [if_pos rfl]
        go_enter Try.func14, Try.ntmps14
        unfold nt
        go_wp2_with (go_at_call 17; (with_reducible refine (hr1 _).mono ?_); rintro e u1 ⟨rfl, hb1⟩; have hn1 : NB u1 (w.heap.size + 1) 0 0 0 := NB.carry (NB.at _ _ _ (by simp)) hb1; have c0 := hn1.c0; have c1 := hn1.c1; have c2 := hn1.c2; have z0 := hn1.thaw 0; have z1 := hn1.thaw 1; have z2 := hn1.thaw 2; have hm1 : NB u1 w.heap.size o 1048576 2 := NB.carry ((NB.at _ _ _ rfl).old _) hb1; have e0 := hm1.c0; have e1 := hm1.c1; have e2 := hm1.c2)
        exact retNt rfl rfl rfl rfl (hn1.set 0 0 0) ⟨rfl, below3 (bel2 (al2 _ _ _) hb1) (by omega) _ _ _⟩
      · rw [if_neg h3]
        go_enter Try.func14, Try.ntmps14
        unfold nt
        go_wp2_with (go_at_call 17; (with_reducible refine (hr1 _).mono ?_); rintro e u1 ⟨rfl, hb1⟩; have hn1 : NB u1 (w.heap.size + 1) 0 0 0 := NB.carry (NB.at _ _ _ (by simp)) hb1; have c0 := hn1.c0; have c1 := hn1.c1; have c2 := hn1.c2; have z0 := hn1.thaw 0; have z1 := hn1.thaw 1; have z2 := hn1.thaw 2; have hm1 : NB u1 w.heap.size o t 2 := NB.carry ((NB.at _ _ _ rfl).old _) hb1; have e0 := hm1.c0; have e1 := hm1.c1; have e2 := hm1.c2)
        exact retNt rfl rfl rfl rfl (hn1.set o (t + 1) 1) ⟨rfl, below3 (bel2 (al2 _ _ _) hb1) (by omega) _ _ _⟩
    · rw [if_pos (.inr h2)]
      generalize rk t k = r at *
      have hk2 : (decide (r < 0) || k != 2) = true := by simp [h2]
      unfold nt at hr1
      go_enter Try.func14, Try.ntmps14
      unfold nt
      go_wp2_with (go_at_call 17; (with_reducible refine (hr1 _).mono ?_); rintro e u1 ⟨rfl, hb1⟩; have hn1 : NB u1 (w.heap.size + 1) 0 0 0 := NB.carry (NB.at _ _ _ (by simp)) hb1; have c0 := hn1.c0; have c1 := hn1.c1; have c2 := hn1.c2; have z0 := hn1.thaw 0; have z1 := hn1.thaw 1; have z2 := hn1.thaw 2; have hm1 : NB u1 w.heap.size o t k := NB.carry ((NB.at _ _ _ rfl).old _) hb1; have e0 := hm1.c0; have e1 := hm1.c1; have e2 := hm1.c2)
      exact retNt rfl rfl rfl rfl (hn1.set 0 0 0) ⟨rfl, below3 (bel2 (al2 _ _ _) hb1) (by omega) _ _ _⟩
theorem rk_neg {t k : Int} : rk t k = -1 ∨ 0 ≤ rk t k := by
  unfold rk
  by_cases h : t < 0 ∨ 1048576 < t
  · rw [if_pos h]; omega
  · rw [if_neg h]
    by_cases k1 : k = 1
    · rw [if_pos k1]; omega
    · rw [if_neg k1]
      by_cases k2 : k = 2
      · rw [if_pos k2]; omega
      · rw [if_neg k2]; omega
set_option maxHeartbeats 2000000 in
set_option maxRecDepth 100000 in
theorem rBeats_any (o t k o' t' k' : Int) (w : World) : Calls Try.prog 20 #[nt o t k, nt o' t' k'] w fun e w' => e = .returned (.bool (bt o t k o' t' k')) ∧ Below w.heap.size w w' := by
  have hmx : Try.prog.follows .mixedOrders = true := by kernel_rfl
  have hj0 : JL w [(w.heap.size, o, t, k), (w.heap.size + 1, o', t', k')] ((w.alloc (.cells #[.int .i64 o, .int .i64 t, .int .i64 k] 23)).alloc (.cells #[.int .i64 o', .int .i64 t', .int .i64 k'] 23)) := by
    have := ((JL.nil w).new o t k).new o' t' k'
    simpa using this
  have n1 := @rk_neg t k
  have n2 := @rk_neg t' k'
  by_cases h0 : o = o'
  case neg =>
    have hb : bt o t k o' t' k' = false := decide_eq_false (by intro h; exact h0 h.1)
    rw [hb]
    go_enter Try.func20, Try.ntmps20
    unfold nt
    go_wp2
    rename_i Q0 K0 hK
    refine wp_region_any hmx ?_
    refine wpAny_pure (fun i__ => ([(.pointer (some ⟨w.heap.size, 0, none⟩)), (.int .i64 o), (.pointer (some ⟨(w.heap.size + 1), 0, none⟩)), (.int .i64 (o')), (.bool false), (.bool false), undef, undef, undef, (.bool false), (.bool false), undef, undef, undef, (.bool false), (.bool false), undef, undef, undef, undef, undef, (.bool false), (.bool false)] : List Value).getD i__ undef) (fun W => JL w [(w.heap.size, o, t, k), (w.heap.size + 1, o', t', k')] W) (by kernel_rfl) (hj0.carry (Below.refl _ _).drew) ?_ ?_
    · refine (stepsFrom_cons ?_ (stepsFrom_cons ?_ (stepsFrom_cons ?_ (stepsFrom_cons ?_ (stepsFrom_cons ?_ (stepsFrom_cons ?_ (stepsFrom_cons ?_ (stepsFrom_cons ?_ (stepsFrom_cons ?_ (stepsFrom_cons ?_ (stepsFrom_cons ?_ (stepsFrom_cons ?_ (stepsFrom_cons ?_ (stepsFrom_cons ?_ (stepsFrom_cons ?_ (stepsFrom_cons ?_ (stepsFrom_cons ?_ (stepsFrom_cons ?_ (stepsFrom_cons ?_ (stepsFrom_cons ?_ (stepsFrom_cons ?_ (stepsFrom_cons ?_ (stepsFrom_cons ?_ trivial)))))))))))))))))))))))
      · exact step_fieldAddr rfl trivial _ _ _ _ rfl rfl (fun w hw => field_n0 w _)
      · exact step_load rfl trivial _ _ _ rfl rfl (fun w hw => load_n0 (hw.get 0 rfl))
      · exact step_fieldAddr rfl trivial _ _ _ _ rfl rfl (fun w hw => field_n0 w _)
      · exact step_load rfl trivial _ _ _ rfl rfl (fun w hw => load_n0 (hw.get 1 rfl))
      · exact step_binOp rfl trivial _ _ _ _ _ _ _ rfl rfl rfl (fun w hw => (bin_eql .i64 _ _).trans (by simp [h0]))
      · exact step_move rfl trivial _ rfl (by kernel_rfl)
      · exact step_skip rfl 5 true 10 (.bool false) rfl rfl (by kernel_rfl) (by intro h; cases h) rfl
      · exact step_skip rfl 5 true 10 (.bool false) rfl rfl (by kernel_rfl) (by intro h; cases h) rfl
      · exact step_skip rfl 5 true 10 (.bool false) rfl rfl (by kernel_rfl) (by intro h; cases h) rfl
      · exact step_pick rfl trivial _ _ _ false rfl (by kernel_rfl) (by kernel_rfl)
      · exact step_move rfl trivial _ rfl (by kernel_rfl)
      · exact step_skip rfl 10 true 15 (.bool false) rfl rfl (by kernel_rfl) (by intro h; cases h) rfl
      · exact step_skip rfl 10 true 15 (.bool false) rfl rfl (by kernel_rfl) (by intro h; cases h) rfl
      · exact step_skip rfl 10 true 15 (.bool false) rfl rfl (by kernel_rfl) (by intro h; cases h) rfl
      · exact step_pick rfl trivial _ _ _ false rfl (by kernel_rfl) (by kernel_rfl)
      · exact step_move rfl trivial _ rfl (by kernel_rfl)
      · exact step_skip rfl 15 true 20 (.bool false) rfl rfl (by kernel_rfl) (by intro h; cases h) rfl
      · exact step_skip rfl 15 true 20 (.bool false) rfl rfl (by kernel_rfl) (by intro h; cases h) rfl
      · exact step_skip rfl 15 true 20 (.bool false) rfl rfl (by kernel_rfl) (by intro h; cases h) rfl
      · exact step_skip rfl 15 true 20 (.bool false) rfl rfl (by kernel_rfl) (by intro h; cases h) rfl
      · exact step_skip rfl 15 true 20 (.bool false) rfl rfl (by kernel_rfl) (by intro h; cases h) rfl
      · exact step_pick rfl trivial _ _ _ false rfl (by kernel_rfl) (by kernel_rfl)
      · exact step_assign rfl trivial _ rfl (by kernel_rfl) (fun _ h => h)
    intro W hW
    first | refine hK _ _ ?_ | refine (‹∀ (a : Act) (w : World), Code.wp Try.prog _ _ a w → _›) _ _ ?_
    simp only [finL, List.getD_cons_zero, List.getD_cons_succ, Nat.zero_add, Nat.reduceAdd, List.setIfInBounds_toArray, List.set_cons_zero, List.set_cons_succ]
    go_wp2
    go_ret
    exact ⟨rfl, hW.below⟩

  subst h0
  by_cases h1 : rk t k = -1
  case pos =>
    have hb : bt o t k o t' k' = false := decide_eq_false (by intro h; exact h.2.1 h1)
    rw [hb]
    go_enter Try.func20, Try.ntmps20
    unfold nt
    go_wp2
    rename_i Q0 K0 hK
    refine wp_region_any hmx ?_
    refine wpAny_pure (fun i__ => ([(.pointer (some ⟨w.heap.size, 0, none⟩)), (.int .i64 o), (.pointer (some ⟨(w.heap.size + 1), 0, none⟩)), (.int .i64 o), (.bool true), (.bool true), (nt o t k), (.int .i64 (rk t k)), (.bool false), (.bool false), (.bool false), undef, undef, undef, (.bool false), (.bool false), undef, undef, undef, undef, undef, (.bool false), (.bool false)] : List Value).getD i__ undef) (fun W => JL w [(w.heap.size, o, t, k), (w.heap.size + 1, o, t', k')] W) (by kernel_rfl) (hj0.carry (Below.refl _ _).drew) ?_ ?_
    · refine (stepsFrom_cons ?_ (stepsFrom_cons ?_ (stepsFrom_cons ?_ (stepsFrom_cons ?_ (stepsFrom_cons ?_ (stepsFrom_cons ?_ (stepsFrom_cons ?_ (stepsFrom_cons ?_ (stepsFrom_cons ?_ (stepsFrom_cons ?_ (stepsFrom_cons ?_ (stepsFrom_cons ?_ (stepsFrom_cons ?_ (stepsFrom_cons ?_ (stepsFrom_cons ?_ (stepsFrom_cons ?_ (stepsFrom_cons ?_ (stepsFrom_cons ?_ (stepsFrom_cons ?_ (stepsFrom_cons ?_ (stepsFrom_cons ?_ (stepsFrom_cons ?_ (stepsFrom_cons ?_ trivial)))))))))))))))))))))))
      · exact step_fieldAddr rfl trivial _ _ _ _ rfl rfl (fun w hw => field_n0 w _)
      · exact step_load rfl trivial _ _ _ rfl rfl (fun w hw => load_n0 (hw.get 0 rfl))
      · exact step_fieldAddr rfl trivial _ _ _ _ rfl rfl (fun w hw => field_n0 w _)
      · exact step_load rfl trivial _ _ _ rfl rfl (fun w hw => load_n0 (hw.get 1 rfl))
      · exact step_binOp rfl trivial _ _ _ _ _ _ _ rfl rfl rfl (fun w hw => (bin_eql .i64 _ _).trans (by simp))
      · exact step_move rfl trivial _ rfl (by kernel_rfl)
      · exact step_load rfl (by exact ⟨_, rfl, by kernel_rfl⟩) _ _ _ rfl rfl (fun w hw => load_nt (hw.get 0 rfl))
      · exact step_call rfl (by exact ⟨_, rfl, by kernel_rfl⟩) 17 _ _ [(nt o t k)] rfl (by kernel_rfl) (enters_of Try.func17 (by kernel_rfl) rfl) (fun w hw => (rRank_any o t k w).mono (by rintro e w' ⟨rfl, hb⟩; exact ⟨rfl, hw.carry hb⟩))
      · exact step_binOp rfl (by exact ⟨_, rfl, by kernel_rfl⟩) _ _ _ _ _ _ _ rfl rfl rfl (fun w hw => (bin_geq .i64 _ _).trans (by simp [h1]))
      · exact step_pick rfl trivial _ _ _ true rfl (by kernel_rfl) (by kernel_rfl)
      · exact step_move rfl trivial _ rfl (by kernel_rfl)
      · exact step_skip rfl 10 true 15 (.bool false) rfl rfl (by kernel_rfl) (by intro h; cases h) rfl
      · exact step_skip rfl 10 true 15 (.bool false) rfl rfl (by kernel_rfl) (by intro h; cases h) rfl
      · exact step_skip rfl 10 true 15 (.bool false) rfl rfl (by kernel_rfl) (by intro h; cases h) rfl
      · exact step_pick rfl trivial _ _ _ false rfl (by kernel_rfl) (by kernel_rfl)
      · exact step_move rfl trivial _ rfl (by kernel_rfl)
      · exact step_skip rfl 15 true 20 (.bool false) rfl rfl (by kernel_rfl) (by intro h; cases h) rfl
      · exact step_skip rfl 15 true 20 (.bool false) rfl rfl (by kernel_rfl) (by intro h; cases h) rfl
      · exact step_skip rfl 15 true 20 (.bool false) rfl rfl (by kernel_rfl) (by intro h; cases h) rfl
      · exact step_skip rfl 15 true 20 (.bool false) rfl rfl (by kernel_rfl) (by intro h; cases h) rfl
      · exact step_skip rfl 15 true 20 (.bool false) rfl rfl (by kernel_rfl) (by intro h; cases h) rfl
      · exact step_pick rfl trivial _ _ _ false rfl (by kernel_rfl) (by kernel_rfl)
      · exact step_assign rfl trivial _ rfl (by kernel_rfl) (fun _ h => h)
    intro W hW
    first | refine hK _ _ ?_ | refine (‹∀ (a : Act) (w : World), Code.wp Try.prog _ _ a w → _›) _ _ ?_
    simp only [finL, List.getD_cons_zero, List.getD_cons_succ, Nat.zero_add, Nat.reduceAdd, List.setIfInBounds_toArray, List.set_cons_zero, List.set_cons_succ]
    go_wp2
    go_ret
    exact ⟨rfl, hW.below⟩

  by_cases h2 : rk t' k' = -1
  case pos =>
    have hb : bt o t k o t' k' = false := decide_eq_false (by intro h; exact h.2.2.1 h2)
    rw [hb]
    go_enter Try.func20, Try.ntmps20
    unfold nt
    go_wp2
    rename_i Q0 K0 hK
    refine wp_region_any hmx ?_
    refine wpAny_pure (fun i__ => ([(.pointer (some ⟨w.heap.size, 0, none⟩)), (.int .i64 o), (.pointer (some ⟨(w.heap.size + 1), 0, none⟩)), (.int .i64 o), (.bool true), (.bool true), (nt o t k), (.int .i64 (rk t k)), (.bool true), (.bool true), (.bool true), (nt o (t') (k')), (.int .i64 (rk (t') (k'))), (.bool false), (.bool false), (.bool false), undef, undef, undef, undef, undef, (.bool false), (.bool false)] : List Value).getD i__ undef) (fun W => JL w [(w.heap.size, o, t, k), (w.heap.size + 1, o, t', k')] W) (by kernel_rfl) (hj0.carry (Below.refl _ _).drew) ?_ ?_
    · refine (stepsFrom_cons ?_ (stepsFrom_cons ?_ (stepsFrom_cons ?_ (stepsFrom_cons ?_ (stepsFrom_cons ?_ (stepsFrom_cons ?_ (stepsFrom_cons ?_ (stepsFrom_cons ?_ (stepsFrom_cons ?_ (stepsFrom_cons ?_ (stepsFrom_cons ?_ (stepsFrom_cons ?_ (stepsFrom_cons ?_ (stepsFrom_cons ?_ (stepsFrom_cons ?_ (stepsFrom_cons ?_ (stepsFrom_cons ?_ (stepsFrom_cons ?_ (stepsFrom_cons ?_ (stepsFrom_cons ?_ (stepsFrom_cons ?_ (stepsFrom_cons ?_ (stepsFrom_cons ?_ trivial)))))))))))))))))))))))
      · exact step_fieldAddr rfl trivial _ _ _ _ rfl rfl (fun w hw => field_n0 w _)
      · exact step_load rfl trivial _ _ _ rfl rfl (fun w hw => load_n0 (hw.get 0 rfl))
      · exact step_fieldAddr rfl trivial _ _ _ _ rfl rfl (fun w hw => field_n0 w _)
      · exact step_load rfl trivial _ _ _ rfl rfl (fun w hw => load_n0 (hw.get 1 rfl))
      · exact step_binOp rfl trivial _ _ _ _ _ _ _ rfl rfl rfl (fun w hw => (bin_eql .i64 _ _).trans (by simp))
      · exact step_move rfl trivial _ rfl (by kernel_rfl)
      · exact step_load rfl (by exact ⟨_, rfl, by kernel_rfl⟩) _ _ _ rfl rfl (fun w hw => load_nt (hw.get 0 rfl))
      · exact step_call rfl (by exact ⟨_, rfl, by kernel_rfl⟩) 17 _ _ [(nt o t k)] rfl (by kernel_rfl) (enters_of Try.func17 (by kernel_rfl) rfl) (fun w hw => (rRank_any o t k w).mono (by rintro e w' ⟨rfl, hb⟩; exact ⟨rfl, hw.carry hb⟩))
      · exact step_binOp rfl (by exact ⟨_, rfl, by kernel_rfl⟩) _ _ _ _ _ _ _ rfl rfl rfl (fun w hw => (bin_geq .i64 _ _).trans (by simp; omega))
      · exact step_pick rfl trivial _ _ _ true rfl (by kernel_rfl) (by kernel_rfl)
      · exact step_move rfl trivial _ rfl (by kernel_rfl)
      · exact step_load rfl (by exact ⟨_, rfl, by kernel_rfl⟩) _ _ _ rfl rfl (fun w hw => load_nt (hw.get 1 rfl))
      · exact step_call rfl (by exact ⟨_, rfl, by kernel_rfl⟩) 17 _ _ [(nt o (t') (k'))] rfl (by kernel_rfl) (enters_of Try.func17 (by kernel_rfl) rfl) (fun w hw => (rRank_any o (t') (k') w).mono (by rintro e w' ⟨rfl, hb⟩; exact ⟨rfl, hw.carry hb⟩))
      · exact step_binOp rfl (by exact ⟨_, rfl, by kernel_rfl⟩) _ _ _ _ _ _ _ rfl rfl rfl (fun w hw => (bin_geq .i64 _ _).trans (by simp [h2]))
      · exact step_pick rfl trivial _ _ _ true rfl (by kernel_rfl) (by kernel_rfl)
      · exact step_move rfl trivial _ rfl (by kernel_rfl)
      · exact step_skip rfl 15 true 20 (.bool false) rfl rfl (by kernel_rfl) (by intro h; cases h) rfl
      · exact step_skip rfl 15 true 20 (.bool false) rfl rfl (by kernel_rfl) (by intro h; cases h) rfl
      · exact step_skip rfl 15 true 20 (.bool false) rfl rfl (by kernel_rfl) (by intro h; cases h) rfl
      · exact step_skip rfl 15 true 20 (.bool false) rfl rfl (by kernel_rfl) (by intro h; cases h) rfl
      · exact step_skip rfl 15 true 20 (.bool false) rfl rfl (by kernel_rfl) (by intro h; cases h) rfl
      · exact step_pick rfl trivial _ _ _ false rfl (by kernel_rfl) (by kernel_rfl)
      · exact step_assign rfl trivial _ rfl (by kernel_rfl) (fun _ h => h)
    intro W hW
    first | refine hK _ _ ?_ | refine (‹∀ (a : Act) (w : World), Code.wp Try.prog _ _ a w → _›) _ _ ?_
    simp only [finL, List.getD_cons_zero, List.getD_cons_succ, Nat.zero_add, Nat.reduceAdd, List.setIfInBounds_toArray, List.set_cons_zero, List.set_cons_succ]
    go_wp2
    go_ret
    exact ⟨rfl, hW.below⟩

  case neg =>
    have hb : bt o t k o t' k' = decide (rk t' k' < rk t k) := by
      unfold bt
      simp [h1, h2]
    rw [hb]
    go_enter Try.func20, Try.ntmps20
    unfold nt
    go_wp2
    rename_i Q0 K0 hK
    refine wp_region_any hmx ?_
    refine wpAny_pure (fun i__ => ([(.pointer (some ⟨w.heap.size, 0, none⟩)), (.int .i64 o), (.pointer (some ⟨(w.heap.size + 1), 0, none⟩)), (.int .i64 o), (.bool true), (.bool true), (nt o t k), (.int .i64 (rk t k)), (.bool true), (.bool true), (.bool true), (nt o (t') (k')), (.int .i64 (rk (t') (k'))), (.bool true), (.bool true), (.bool true), (nt o t k), (.int .i64 (rk t k)), (nt o (t') (k')), (.int .i64 (rk (t') (k'))), (.bool (decide (rk t' k' < rk t k))), (.bool (decide (rk t' k' < rk t k))), (.bool (decide (rk t' k' < rk t k)))] : List Value).getD i__ undef) (fun W => JL w [(w.heap.size, o, t, k), (w.heap.size + 1, o, t', k')] W) (by kernel_rfl) (hj0.carry (Below.refl _ _).drew) ?_ ?_
    · refine (stepsFrom_cons ?_ (stepsFrom_cons ?_ (stepsFrom_cons ?_ (stepsFrom_cons ?_ (stepsFrom_cons ?_ (stepsFrom_cons ?_ (stepsFrom_cons ?_ (stepsFrom_cons ?_ (stepsFrom_cons ?_ (stepsFrom_cons ?_ (stepsFrom_cons ?_ (stepsFrom_cons ?_ (stepsFrom_cons ?_ (stepsFrom_cons ?_ (stepsFrom_cons ?_ (stepsFrom_cons ?_ (stepsFrom_cons ?_ (stepsFrom_cons ?_ (stepsFrom_cons ?_ (stepsFrom_cons ?_ (stepsFrom_cons ?_ (stepsFrom_cons ?_ (stepsFrom_cons ?_ trivial)))))))))))))))))))))))
      · exact step_fieldAddr rfl trivial _ _ _ _ rfl rfl (fun w hw => field_n0 w _)
      · exact step_load rfl trivial _ _ _ rfl rfl (fun w hw => load_n0 (hw.get 0 rfl))
      · exact step_fieldAddr rfl trivial _ _ _ _ rfl rfl (fun w hw => field_n0 w _)
      · exact step_load rfl trivial _ _ _ rfl rfl (fun w hw => load_n0 (hw.get 1 rfl))
      · exact step_binOp rfl trivial _ _ _ _ _ _ _ rfl rfl rfl (fun w hw => (bin_eql .i64 _ _).trans (by simp))
      · exact step_move rfl trivial _ rfl (by kernel_rfl)
      · exact step_load rfl (by exact ⟨_, rfl, by kernel_rfl⟩) _ _ _ rfl rfl (fun w hw => load_nt (hw.get 0 rfl))
      · exact step_call rfl (by exact ⟨_, rfl, by kernel_rfl⟩) 17 _ _ [(nt o t k)] rfl (by kernel_rfl) (enters_of Try.func17 (by kernel_rfl) rfl) (fun w hw => (rRank_any o t k w).mono (by rintro e w' ⟨rfl, hb⟩; exact ⟨rfl, hw.carry hb⟩))
      · exact step_binOp rfl (by exact ⟨_, rfl, by kernel_rfl⟩) _ _ _ _ _ _ _ rfl rfl rfl (fun w hw => (bin_geq .i64 _ _).trans (by simp; omega))
      · exact step_pick rfl trivial _ _ _ true rfl (by kernel_rfl) (by kernel_rfl)
      · exact step_move rfl trivial _ rfl (by kernel_rfl)
      · exact step_load rfl (by exact ⟨_, rfl, by kernel_rfl⟩) _ _ _ rfl rfl (fun w hw => load_nt (hw.get 1 rfl))
      · exact step_call rfl (by exact ⟨_, rfl, by kernel_rfl⟩) 17 _ _ [(nt o (t') (k'))] rfl (by kernel_rfl) (enters_of Try.func17 (by kernel_rfl) rfl) (fun w hw => (rRank_any o (t') (k') w).mono (by rintro e w' ⟨rfl, hb⟩; exact ⟨rfl, hw.carry hb⟩))
      · exact step_binOp rfl (by exact ⟨_, rfl, by kernel_rfl⟩) _ _ _ _ _ _ _ rfl rfl rfl (fun w hw => (bin_geq .i64 _ _).trans (by simp; omega))
      · exact step_pick rfl trivial _ _ _ true rfl (by kernel_rfl) (by kernel_rfl)
      · exact step_move rfl trivial _ rfl (by kernel_rfl)
      · exact step_load rfl (by exact ⟨_, rfl, by kernel_rfl⟩) _ _ _ rfl rfl (fun w hw => load_nt (hw.get 0 rfl))
      · exact step_call rfl (by exact ⟨_, rfl, by kernel_rfl⟩) 17 _ _ [(nt o t k)] rfl (by kernel_rfl) (enters_of Try.func17 (by kernel_rfl) rfl) (fun w hw => (rRank_any o t k w).mono (by rintro e w' ⟨rfl, hb⟩; exact ⟨rfl, hw.carry hb⟩))
      · exact step_load rfl (by exact ⟨_, rfl, by kernel_rfl⟩) _ _ _ rfl rfl (fun w hw => load_nt (hw.get 1 rfl))
      · exact step_call rfl (by exact ⟨_, rfl, by kernel_rfl⟩) 17 _ _ [(nt o (t') (k'))] rfl (by kernel_rfl) (enters_of Try.func17 (by kernel_rfl) rfl) (fun w hw => (rRank_any o (t') (k') w).mono (by rintro e w' ⟨rfl, hb⟩; exact ⟨rfl, hw.carry hb⟩))
      · exact step_binOp rfl (by exact ⟨_, rfl, by kernel_rfl⟩) _ _ _ _ _ _ _ rfl rfl rfl (fun w hw => (bin_gtr .i64 _ _).trans rfl)
      · exact step_pick rfl trivial _ _ _ true rfl (by kernel_rfl) (by kernel_rfl)
      · exact step_assign rfl trivial _ rfl (by kernel_rfl) (fun _ h => h)
    intro W hW
    first | refine hK _ _ ?_ | refine (‹∀ (a : Act) (w : World), Code.wp Try.prog _ _ a w → _›) _ _ ?_
    simp only [finL, List.getD_cons_zero, List.getD_cons_succ, Nat.zero_add, Nat.reduceAdd, List.setIfInBounds_toArray, List.set_cons_zero, List.set_cons_succ]
    go_wp2
    go_ret
    exact ⟨rfl, hW.below⟩

set_option maxHeartbeats 2000000 in
theorem rMax_any (o t k o' t' k' : Int) (w : World) : Calls Try.prog 19 #[nt o t k, nt o' t' k'] w fun e w' => e = .returned (mxV o t k o' t' k') ∧ Below w.heap.size w w' := by
  have hr1 := rRank_any o t k
  have hr2 := rRank_any o' t' k'
  have n1 := @rk_neg t k
  have n2 := @rk_neg t' k'
  unfold mxV rv
  by_cases h0 : o = o'
  case neg =>
    rw [if_neg (by simp [h0])]
    have h0' : ¬ o' = o := fun e => h0 e.symm
    unfold nt at *
    go_enter Try.func19, Try.ntmps19
    go_wp2
    exact retNt rfl rfl rfl rfl (new_at (by simp)) ⟨rfl, al3 _ _ _ _⟩
  subst h0
  by_cases h1 : rk t k = -1
  case pos =>
    rw [if_neg (by simp [h1])]
    rw [h1] at hr1
    unfold nt at *
    go_enter Try.func19, Try.ntmps19
    go_wp2_with (go_at_call 17; (with_reducible refine (hr1 _).mono ?_); rintro e u1 ⟨rfl, hb1⟩; have hn1 : NB u1 (w.heap.size + 2) 0 0 0 := NB.carry (NB.at _ _ _ (by simp)) hb1; have c0 := hn1.c0; have c1 := hn1.c1; have c2 := hn1.c2; have z0 := hn1.thaw 0; have z1 := hn1.thaw 1; have z2 := hn1.thaw 2; have ha1 : NB u1 w.heap.size o t k := NB.carry (((NB.at _ _ _ rfl).old _).old _) hb1; have d0 := ha1.c0; have d1 := ha1.c1; have d2 := ha1.c2; have hx1 : NB u1 (w.heap.size + 1) o t' k' := NB.carry ((NB.at _ _ _ (by simp)).old _) hb1; have e0 := hx1.c0; have e1 := hx1.c1; have e2 := hx1.c2)
    exact retNt rfl rfl rfl rfl (hn1.set 0 0 0) ⟨rfl, below3 (bel2 (al3 _ _ _ _) hb1) (by omega) _ _ _⟩
  have g1 : 0 ≤ rk t k := by omega
  by_cases h2 : rk t' k' = -1
  case pos =>
    rw [if_neg (by simp [h2])]
    rw [h2] at hr2
    generalize rk t k = r1 at *
    unfold nt at *
    go_enter Try.func19, Try.ntmps19
    go_wp2_with (first | (go_at_call 17; (with_reducible refine (hr1 _).mono ?_); rintro e u1 ⟨rfl, hb1⟩; have hn1 : NB u1 (w.heap.size + 2) 0 0 0 := NB.carry (NB.at _ _ _ (by simp)) hb1; have c0 := hn1.c0; have c1 := hn1.c1; have c2 := hn1.c2; have z0 := hn1.thaw 0; have z1 := hn1.thaw 1; have z2 := hn1.thaw 2; have ha1 : NB u1 w.heap.size o t k := NB.carry (((NB.at _ _ _ rfl).old _).old _) hb1; have d0 := ha1.c0; have d1 := ha1.c1; have d2 := ha1.c2; have hx1 : NB u1 (w.heap.size + 1) o t' k' := NB.carry ((NB.at _ _ _ (by simp)).old _) hb1; have e0 := hx1.c0; have e1 := hx1.c1; have e2 := hx1.c2) | (go_at_call 17; (with_reducible refine (hr2 _).mono ?_); rintro e u2 ⟨rfl, hb2⟩; have hn2 : NB u2 (w.heap.size + 2) 0 0 0 := NB.carry hn1 hb2; have c0 := hn2.c0; have c1 := hn2.c1; have c2 := hn2.c2; have z0 := hn2.thaw 0; have z1 := hn2.thaw 1; have z2 := hn2.thaw 2; have ha2 : NB u2 w.heap.size o t k := NB.carry ha1 hb2; have d0 := ha2.c0; have d1 := ha2.c1; have d2 := ha2.c2; have hx2 : NB u2 (w.heap.size + 1) o t' k' := NB.carry hx1 hb2; have e0 := hx2.c0; have e1 := hx2.c1; have e2 := hx2.c2))
    exact retNt rfl rfl rfl rfl (hn2.set 0 0 0) ⟨rfl, below3 (bel2 (bel2 (al3 _ _ _ _) hb1) hb2) (by omega) _ _ _⟩
  have g2 : 0 ≤ rk t' k' := by omega
  rw [if_pos (by simp [h1, h2])]
  have hbt := rBeats_any o t' k' o t k
  have hbv : bt o t' k' o t k = decide (rk t k < rk t' k') := by
    unfold bt
    simp [h1, h2]
  rw [hbv] at hbt
  unfold mxt mxk
  by_cases hl : rk t k < rk t' k'
  · rw [if_pos hl, if_pos hl]
    rw [decide_eq_true hl] at hbt
    clear hbv hl h1 h2 n1 n2
    generalize rk t k = r1 at *
    generalize rk t' k' = r2 at *
    unfold nt at *
    go_enter Try.func19, Try.ntmps19
    go_wp2_with (first | (go_at_call 17; (with_reducible refine (hr1 _).mono ?_); rintro e u1 ⟨rfl, hb1⟩; have hn1 : NB u1 (w.heap.size + 2) 0 0 0 := NB.carry (NB.at _ _ _ (by simp)) hb1; have c0 := hn1.c0; have c1 := hn1.c1; have c2 := hn1.c2; have z0 := hn1.thaw 0; have z1 := hn1.thaw 1; have z2 := hn1.thaw 2; have ha1 : NB u1 w.heap.size o t k := NB.carry (((NB.at _ _ _ rfl).old _).old _) hb1; have d0 := ha1.c0; have d1 := ha1.c1; have d2 := ha1.c2; have hx1 : NB u1 (w.heap.size + 1) o t' k' := NB.carry ((NB.at _ _ _ (by simp)).old _) hb1; have e0 := hx1.c0; have e1 := hx1.c1; have e2 := hx1.c2) | (go_at_call 17; (with_reducible refine (hr2 _).mono ?_); rintro e u2 ⟨rfl, hb2⟩; have hn2 : NB u2 (w.heap.size + 2) 0 0 0 := NB.carry hn1 hb2; have c0 := hn2.c0; have c1 := hn2.c1; have c2 := hn2.c2; have z0 := hn2.thaw 0; have z1 := hn2.thaw 1; have z2 := hn2.thaw 2; have ha2 : NB u2 w.heap.size o t k := NB.carry ha1 hb2; have d0 := ha2.c0; have d1 := ha2.c1; have d2 := ha2.c2; have hx2 : NB u2 (w.heap.size + 1) o t' k' := NB.carry hx1 hb2; have e0 := hx2.c0; have e1 := hx2.c1; have e2 := hx2.c2) | (go_at_call 20; (with_reducible refine (hbt _).mono ?_); rintro e u3 ⟨rfl, hb3⟩; have hn3 : NB u3 (w.heap.size + 2) 0 0 0 := NB.carry hn2 hb3; have c0 := hn3.c0; have c1 := hn3.c1; have c2 := hn3.c2; have z0 := hn3.thaw 0; have z1 := hn3.thaw 1; have z2 := hn3.thaw 2; have ha3 : NB u3 w.heap.size o t k := NB.carry ha2 hb3; have d0 := ha3.c0; have d1 := ha3.c1; have d2 := ha3.c2; have hx3 : NB u3 (w.heap.size + 1) o t' k' := NB.carry hx2 hb3; have e0 := hx3.c0; have e1 := hx3.c1; have e2 := hx3.c2))
    exact retNt rfl rfl rfl rfl (hn3.set _ _ _) ⟨rfl, below3 (bel2 (bel2 (bel2 (al3 _ _ _ _) hb1) hb2) hb3) (by omega) _ _ _⟩
  · rw [if_neg hl, if_neg hl]
    rw [decide_eq_false hl] at hbt
    clear hbv hl h1 h2 n1 n2
    generalize rk t k = r1 at *
    generalize rk t' k' = r2 at *
    unfold nt at *
    go_enter Try.func19, Try.ntmps19
    go_wp2_with (first | (go_at_call 17; (with_reducible refine (hr1 _).mono ?_); rintro e u1 ⟨rfl, hb1⟩; have hn1 : NB u1 (w.heap.size + 2) 0 0 0 := NB.carry (NB.at _ _ _ (by simp)) hb1; have c0 := hn1.c0; have c1 := hn1.c1; have c2 := hn1.c2; have z0 := hn1.thaw 0; have z1 := hn1.thaw 1; have z2 := hn1.thaw 2; have ha1 : NB u1 w.heap.size o t k := NB.carry (((NB.at _ _ _ rfl).old _).old _) hb1; have d0 := ha1.c0; have d1 := ha1.c1; have d2 := ha1.c2; have hx1 : NB u1 (w.heap.size + 1) o t' k' := NB.carry ((NB.at _ _ _ (by simp)).old _) hb1; have e0 := hx1.c0; have e1 := hx1.c1; have e2 := hx1.c2) | (go_at_call 17; (with_reducible refine (hr2 _).mono ?_); rintro e u2 ⟨rfl, hb2⟩; have hn2 : NB u2 (w.heap.size + 2) 0 0 0 := NB.carry hn1 hb2; have c0 := hn2.c0; have c1 := hn2.c1; have c2 := hn2.c2; have z0 := hn2.thaw 0; have z1 := hn2.thaw 1; have z2 := hn2.thaw 2; have ha2 : NB u2 w.heap.size o t k := NB.carry ha1 hb2; have d0 := ha2.c0; have d1 := ha2.c1; have d2 := ha2.c2; have hx2 : NB u2 (w.heap.size + 1) o t' k' := NB.carry hx1 hb2; have e0 := hx2.c0; have e1 := hx2.c1; have e2 := hx2.c2) | (go_at_call 20; (with_reducible refine (hbt _).mono ?_); rintro e u3 ⟨rfl, hb3⟩; have hn3 : NB u3 (w.heap.size + 2) 0 0 0 := NB.carry hn2 hb3; have c0 := hn3.c0; have c1 := hn3.c1; have c2 := hn3.c2; have z0 := hn3.thaw 0; have z1 := hn3.thaw 1; have z2 := hn3.thaw 2; have ha3 : NB u3 w.heap.size o t k := NB.carry ha2 hb3; have d0 := ha3.c0; have d1 := ha3.c1; have d2 := ha3.c2; have hx3 : NB u3 (w.heap.size + 1) o t' k' := NB.carry hx2 hb3; have e0 := hx3.c0; have e1 := hx3.c1; have e2 := hx3.c2))
    exact retNt rfl rfl rfl rfl (hn3.set _ _ _) ⟨rfl, below3 (bel2 (bel2 (bel2 (al3 _ _ _ _) hb1) hb2) hb3) (by omega) _ _ _⟩
end Go.Proofs.Ytebpngapkkdifaa
