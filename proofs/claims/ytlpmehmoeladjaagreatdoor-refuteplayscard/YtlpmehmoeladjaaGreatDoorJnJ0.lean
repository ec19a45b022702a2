/- The document's answers of chapter 5: what they say, at every notice. -/
import Derived.Test.YtlpmehmoeladjaaGreatDoorNtd
import Derived.Maps.AppendAt
import Derived.OwnWalk
import Derived.Laws.OwnMore
namespace Go.Proofs.YtlpmehmoeladjaaGreatDoor
open Go.RowKit Go.Shelf

set_option maxHeartbeats 1000000 in
theorem rRank_any (o t k : Int) (w : World) : Calls Tryz.prog 64 #[nt o t k] w fun e w' => e = .returned (.int .i64 (rk t k)) ∧ Below w.heap.size w w' := by
  unfold nt
  by_cases h : t < 0 ∨ 1048576 < t
  · rw [rk_lo h]
    rcases h with h | h
    all_goals
      go_enter Tryz.func64, Tryz.ntmps64
      go_wp2
      go_ret
      exact ⟨rfl, al1 _ _⟩
  · have h0 : ¬ t < 0 := by omega
    have h1 : ¬ 1048576 < t := by omega
    by_cases k1 : k = 1
    · subst k1
      rw [rk_m h]
      go_enter Tryz.func64, Tryz.ntmps64
      go_wp2
      go_ret
      exact ⟨congrArg (fun x => Ending.returned (.int .i64 x)) (show (2 * t : Int) = 2 * t from rfl), al1 _ _⟩
    · by_cases k2 : k = 2
      · subst k2
        rw [rk_s h]
        go_enter Tryz.func64, Tryz.ntmps64
        go_wp2
        go_ret
        exact ⟨congrArg (fun x => Ending.returned (.int .i64 x)) (show 2 * t + 2 - 1 = 2 * t + 1 by omega), al1 _ _⟩
      · rw [rk_n k1 k2]
        have hk : (k != 1 && k != 2) = true := by simp [k1, k2]
        go_enter Tryz.func64, Tryz.ntmps64
        go_wp2
        go_ret
        exact ⟨rfl, al1 _ _⟩
set_option maxHeartbeats 2000000 in
theorem rValid_any (n o t k : Int) (w : World) : Calls Tryz.prog 40 #[.int .i64 n, nt o t k] w fun e w' => e = .returned (.bool (vl n o t k)) ∧ Below w.heap.size w w' := by
  by_cases h : 1 ≤ n ∧ n ≤ 100 ∧ 0 ≤ o ∧ o < n ∧ rk t k ≠ -1
  · have hv : vl n o t k = true := decide_eq_true h
    rw [hv]
    obtain ⟨a1, a2, a3, a4, a5⟩ := h
    obtain ⟨a6, a7, a8⟩ := rk_ok.1 a5
    clear hv a5
    unfold nt
    rcases a8 with rfl | rfl
    all_goals
      go_enter Tryz.func40, Tryz.ntmps40
      go_wp2
      go_ret
      exact ⟨rfl, al1 _ _⟩
  · have hv : vl n o t k = false := decide_eq_false h
    rw [hv]
    have h2 : n < 1 ∨ (1 ≤ n ∧ 100 < n) ∨ (1 ≤ n ∧ n ≤ 100 ∧ o < 0) ∨ (1 ≤ n ∧ n ≤ 100 ∧ 0 ≤ o ∧ n ≤ o) ∨ (1 ≤ n ∧ n ≤ 100 ∧ 0 ≤ o ∧ o < n ∧ t < 0) ∨ (1 ≤ n ∧ n ≤ 100 ∧ 0 ≤ o ∧ o < n ∧ 0 ≤ t ∧ 1048576 < t) ∨ (1 ≤ n ∧ n ≤ 100 ∧ 0 ≤ o ∧ o < n ∧ 0 ≤ t ∧ t ≤ 1048576 ∧ ¬ k = 1 ∧ ¬ k = 2) := by
      rw [rk_ok] at h
      omega
    clear hv h
    unfold nt
    rcases h2 with a1 | ⟨a1, a2⟩ | ⟨a1, a2, a3⟩ | ⟨a1, a2, a3, a4⟩ | ⟨a1, a2, a3, a4, a5⟩ | ⟨a1, a2, a3, a4, a5, a6⟩ | ⟨a1, a2, a3, a4, a5, a6, a7, a8⟩
    all_goals
      go_enter Tryz.func40, Tryz.ntmps40
      go_wp2
      go_ret
      first | exact ⟨rfl, al1 _ _⟩ | exact ⟨(show Ending.returned (.bool (k == 1 || k == 2)) = .returned (.bool false) by simp [a7, a8]), al1 _ _⟩
set_option maxHeartbeats 400000 in
theorem rFresh_any (o : Int) (w : World) : Calls Tryz.prog 34 #[.int .i64 o] w fun e w' => e = .returned (nt o 0 1) ∧ Below w.heap.size w w' := by
  go_enter Tryz.func34, Tryz.ntmps34
  go_wp2
  exact retN rfl rfl rfl (new_at rfl) ⟨rfl, al1 _ _⟩
set_option maxHeartbeats 2000000 in
set_option maxRecDepth 100000 in
theorem rBeats_any (o t k o' t' k' : Int) (w : World) : Calls Tryz.prog 42 #[nt o t k, nt o' t' k'] w fun e w' => e = .returned (.bool (bt o t k o' t' k')) ∧ Below w.heap.size w w' := by
  have hmx : Tryz.prog.follows .mixedOrders = true := by kernel_rfl
  have hj0 : JL w [(w.heap.size, o, t, k), (w.heap.size + 1, o', t', k')] ((w.alloc (.cells #[.int .i64 o, .int .i64 t, .int .i64 k] 60)).alloc (.cells #[.int .i64 o', .int .i64 t', .int .i64 k'] 60)) := by
    have := ((JL.nil w).new o t k).new o' t' k'
    simpa using this
  have n1 := @rk_neg t k
  have n2 := @rk_neg t' k'
  by_cases h0 : o = o'
  case neg =>
    have hb : bt o t k o' t' k' = false := decide_eq_false (by intro h; exact h0 h.1)
    rw [hb]
    go_enter Tryz.func42, Tryz.ntmps42
    unfold nt
    go_wp2
    rename_i Q0 K0 hK
    refine wp_region_any hmx ?_
    refine wpAny_pure (fun i__ => ([(.pointer (some ⟨w.heap.size, 0, none⟩)), (.int .i64 o), (.pointer (some ⟨(w.heap.size + 1), 0, none⟩)), (.int .i64 (o')), (.bool false), (.bool false), undef, undef, undef, (.bool false), (.bool false), undef, undef, undef, (.bool false), (.bool false), undef, undef, undef, undef, undef, (.bool false), (.bool false)] : List Value).getD i__ undef) (fun W => JL w [(w.heap.size, o, t, k), (w.heap.size + 1, o', t', k')] W) (by kernel_rfl) (hj0.carry (Below.refl _ _).drew) ?_ ?_
    · refine (stepsFrom_cons ?_ (stepsFrom_cons ?_ (stepsFrom_cons ?_ (stepsFrom_cons ?_ (stepsFrom_cons ?_ (stepsFrom_cons ?_ (stepsFrom_cons ?_ (stepsFrom_cons ?_ (stepsFrom_cons ?_ (stepsFrom_cons ?_ (stepsFrom_cons ?_ (stepsFrom_cons ?_ (stepsFrom_cons ?_ (stepsFrom_cons ?_ (stepsFrom_cons ?_ (stepsFrom_cons ?_ (stepsFrom_cons ?_ (stepsFrom_cons ?_ (stepsFrom_cons ?_ (stepsFrom_cons ?_ (stepsFrom_cons ?_ (stepsFrom_cons ?_ (stepsFrom_cons ?_ trivial)))))))))))))))))))))))
      · exact step_fieldAddr rfl trivial _ _ _ _ rfl rfl (fun w hw => field_n0 w _)
      · exact step_load rfl trivial _ _ _ rfl rfl (fun w hw => load_n0 (hw.get 0 rfl))
      · exact step_fieldAddr rfl trivial _ _ _ _ rfl rfl (fun w hw => field_n0 w _)
      · exact step_load rfl trivial _ _ _ rfl rfl (fun w hw => load_n0 (hw.get 1 rfl))
      · exact step_binOp rfl trivial _ _ _ _ _ _ _ rfl rfl rfl (fun w hw => (bin_eql .i64 _ _).trans (by simp [h0]))
      · exact step_move rfl trivial _ rfl (by kernel_rfl)
      · exact step_skip rfl 5 true 10 (.bool false) rfl rfl (by kernel_rfl) (by intro h; cases h) rfl
      · exact step_skip rfl 5 true 10 (.bool false) rfl rfl (by kernel_rfl) (by intro h; cases h) rfl
      · exact step_skip rfl 5 true 10 (.bool false) rfl rfl (by kernel_rfl) (by intro h; cases h) rfl
      · exact step_pick rfl trivial _ _ _ false rfl (by kernel_rfl) (by kernel_rfl)
      · exact step_move rfl trivial _ rfl (by kernel_rfl)
      · exact step_skip rfl 10 true 15 (.bool false) rfl rfl (by kernel_rfl) (by intro h; cases h) rfl
      · exact step_skip rfl 10 true 15 (.bool false) rfl rfl (by kernel_rfl) (by intro h; cases h) rfl
      · exact step_skip rfl 10 true 15 (.bool false) rfl rfl (by kernel_rfl) (by intro h; cases h) rfl
      · exact step_pick rfl trivial _ _ _ false rfl (by kernel_rfl) (by kernel_rfl)
      · exact step_move rfl trivial _ rfl (by kernel_rfl)
      · exact step_skip rfl 15 true 20 (.bool false) rfl rfl (by kernel_rfl) (by intro h; cases h) rfl
      · exact step_skip rfl 15 true 20 (.bool false) rfl rfl (by kernel_rfl) (by intro h; cases h) rfl
      · exact step_skip rfl 15 true 20 (.bool false) rfl rfl (by kernel_rfl) (by intro h; cases h) rfl
      · exact step_skip rfl 15 true 20 (.bool false) rfl rfl (by kernel_rfl) (by intro h; cases h) rfl
      · exact step_skip rfl 15 true 20 (.bool false) rfl rfl (by kernel_rfl) (by intro h; cases h) rfl
      · exact step_pick rfl trivial _ _ _ false rfl (by kernel_rfl) (by kernel_rfl)
      · exact step_assign rfl trivial _ rfl (by kernel_rfl) (fun _ h => h)
    intro W hW
    first | refine hK _ _ ?_ | refine (‹∀ (a : Act) (w : World), Code.wp Tryz.prog _ _ a w → _›) _ _ ?_
    simp only [finL, List.getD_cons_zero, List.getD_cons_succ, Nat.zero_add, Nat.reduceAdd, List.setIfInBounds_toArray, List.set_cons_zero, List.set_cons_succ]
    go_wp2
    go_ret
    exact ⟨rfl, hW.below⟩

  subst h0
  by_cases h1 : rk t k = -1
  case pos =>
    have hb : bt o t k o t' k' = false := decide_eq_false (by intro h; exact h.2.1 h1)
    rw [hb]
    go_enter Tryz.func42, Tryz.ntmps42
    unfold nt
    go_wp2
    rename_i Q0 K0 hK
    refine wp_region_any hmx ?_
    refine wpAny_pure (fun i__ => ([(.pointer (some ⟨w.heap.size, 0, none⟩)), (.int .i64 o), (.pointer (some ⟨(w.heap.size + 1), 0, none⟩)), (.int .i64 o), (.bool true), (.bool true), (nt o t k), (.int .i64 (rk t k)), (.bool false), (.bool false), (.bool false), undef, undef, undef, (.bool false), (.bool false), undef, undef, undef, undef, undef, (.bool false), (.bool false)] : List Value).getD i__ undef) (fun W => JL w [(w.heap.size, o, t, k), (w.heap.size + 1, o, t', k')] W) (by kernel_rfl) (hj0.carry (Below.refl _ _).drew) ?_ ?_
    · refine (stepsFrom_cons ?_ (stepsFrom_cons ?_ (stepsFrom_cons ?_ (stepsFrom_cons ?_ (stepsFrom_cons ?_ (stepsFrom_cons ?_ (stepsFrom_cons ?_ (stepsFrom_cons ?_ (stepsFrom_cons ?_ (stepsFrom_cons ?_ (stepsFrom_cons ?_ (stepsFrom_cons ?_ (stepsFrom_cons ?_ (stepsFrom_cons ?_ (stepsFrom_cons ?_ (stepsFrom_cons ?_ (stepsFrom_cons ?_ (stepsFrom_cons ?_ (stepsFrom_cons ?_ (stepsFrom_cons ?_ (stepsFrom_cons ?_ (stepsFrom_cons ?_ (stepsFrom_cons ?_ trivial)))))))))))))))))))))))
      · exact step_fieldAddr rfl trivial _ _ _ _ rfl rfl (fun w hw => field_n0 w _)
      · exact step_load rfl trivial _ _ _ rfl rfl (fun w hw => load_n0 (hw.get 0 rfl))
      · exact step_fieldAddr rfl trivial _ _ _ _ rfl rfl (fun w hw => field_n0 w _)
      · exact step_load rfl trivial _ _ _ rfl rfl (fun w hw => load_n0 (hw.get 1 rfl))
      · exact step_binOp rfl trivial _ _ _ _ _ _ _ rfl rfl rfl (fun w hw => (bin_eql .i64 _ _).trans (by simp))
      · exact step_move rfl trivial _ rfl (by kernel_rfl)
      · exact step_load rfl (by exact ⟨_, rfl, by kernel_rfl⟩) _ _ _ rfl rfl (fun w hw => load_nt (hw.get 0 rfl))
      · exact step_call rfl (by exact ⟨_, rfl, by kernel_rfl⟩) 64 _ _ [(nt o t k)] rfl (by kernel_rfl) (enters_of Tryz.func64 (by kernel_rfl) rfl) (fun w hw => (rRank_any o t k w).mono (by rintro e w' ⟨rfl, hb⟩; exact ⟨rfl, hw.carry hb⟩))
      · exact step_binOp rfl (by exact ⟨_, rfl, by kernel_rfl⟩) _ _ _ _ _ _ _ rfl rfl rfl (fun w hw => (bin_geq .i64 _ _).trans (by simp [h1]))
      · exact step_pick rfl trivial _ _ _ true rfl (by kernel_rfl) (by kernel_rfl)
      · exact step_move rfl trivial _ rfl (by kernel_rfl)
      · exact step_skip rfl 10 true 15 (.bool false) rfl rfl (by kernel_rfl) (by intro h; cases h) rfl
      · exact step_skip rfl 10 true 15 (.bool false) rfl rfl (by kernel_rfl) (by intro h; cases h) rfl
      · exact step_skip rfl 10 true 15 (.bool false) rfl rfl (by kernel_rfl) (by intro h; cases h) rfl
      · exact step_pick rfl trivial _ _ _ false rfl (by kernel_rfl) (by kernel_rfl)
      · exact step_move rfl trivial _ rfl (by kernel_rfl)
      · exact step_skip rfl 15 true 20 (.bool false) rfl rfl (by kernel_rfl) (by intro h; cases h) rfl
      · exact step_skip rfl 15 true 20 (.bool false) rfl rfl (by kernel_rfl) (by intro h; cases h) rfl
      · exact step_skip rfl 15 true 20 (.bool false) rfl rfl (by kernel_rfl) (by intro h; cases h) rfl
      · exact step_skip rfl 15 true 20 (.bool false) rfl rfl (by kernel_rfl) (by intro h; cases h) rfl
      · exact step_skip rfl 15 true 20 (.bool false) rfl rfl (by kernel_rfl) (by intro h; cases h) rfl
      · exact step_pick rfl trivial _ _ _ false rfl (by kernel_rfl) (by kernel_rfl)
      · exact step_assign rfl trivial _ rfl (by kernel_rfl) (fun _ h => h)
    intro W hW
    first | refine hK _ _ ?_ | refine (‹∀ (a : Act) (w : World), Code.wp Tryz.prog _ _ a w → _›) _ _ ?_
    simp only [finL, List.getD_cons_zero, List.getD_cons_succ, Nat.zero_add, Nat.reduceAdd, List.setIfInBounds_toArray, List.set_cons_zero, List.set_cons_succ]
    go_wp2
    go_ret
    exact ⟨rfl, hW.below⟩

  by_cases h2 : rk t' k' = -1
  case pos =>
    have hb : bt o t k o t' k' = false := decide_eq_false (by intro h; exact h.2.2.1 h2)
    rw [hb]
    go_enter Tryz.func42, Tryz.ntmps42
    unfold nt
    go_wp2
    rename_i Q0 K0 hK
    refine wp_region_any hmx ?_
    refine wpAny_pure (fun i__ => ([(.pointer (some ⟨w.heap.size, 0, none⟩)), (.int .i64 o), (.pointer (some ⟨(w.heap.size + 1), 0, none⟩)), (.int .i64 o), (.bool true), (.bool true), (nt o t k), (.int .i64 (rk t k)), (.bool true), (.bool true), (.bool true), (nt o (t') (k')), (.int .i64 (rk (t') (k'))), (.bool false), (.bool false), (.bool false), undef, undef, undef, undef, undef, (.bool false), (.bool false)] : List Value).getD i__ undef) (fun W => JL w [(w.heap.size, o, t, k), (w.heap.size + 1, o, t', k')] W) (by kernel_rfl) (hj0.carry (Below.refl _ _).drew) ?_ ?_
    · refine (stepsFrom_cons ?_ (stepsFrom_cons ?_ (stepsFrom_cons ?_ (stepsFrom_cons ?_ (stepsFrom_cons ?_ (stepsFrom_cons ?_ (stepsFrom_cons ?_ (stepsFrom_cons ?_ (stepsFrom_cons ?_ (stepsFrom_cons ?_ (stepsFrom_cons ?_ (stepsFrom_cons ?_ (stepsFrom_cons ?_ (stepsFrom_cons ?_ (stepsFrom_cons ?_ (stepsFrom_cons ?_ (stepsFrom_cons ?_ (stepsFrom_cons ?_ (stepsFrom_cons ?_ (stepsFrom_cons ?_ (stepsFrom_cons ?_ (stepsFrom_cons ?_ (stepsFrom_cons ?_ trivial)))))))))))))))))))))))
      · exact step_fieldAddr rfl trivial _ _ _ _ rfl rfl (fun w hw => field_n0 w _)
      · exact step_load rfl trivial _ _ _ rfl rfl (fun w hw => load_n0 (hw.get 0 rfl))
      · exact step_fieldAddr rfl trivial _ _ _ _ rfl rfl (fun w hw => field_n0 w _)
      · exact step_load rfl trivial _ _ _ rfl rfl (fun w hw => load_n0 (hw.get 1 rfl))
      · exact step_binOp rfl trivial _ _ _ _ _ _ _ rfl rfl rfl (fun w hw => (bin_eql .i64 _ _).trans (by simp))
      · exact step_move rfl trivial _ rfl (by kernel_rfl)
      · exact step_load rfl (by exact ⟨_, rfl, by kernel_rfl⟩) _ _ _ rfl rfl (fun w hw => load_nt (hw.get 0 rfl))
      · exact step_call rfl (by exact ⟨_, rfl, by kernel_rfl⟩) 64 _ _ [(nt o t k)] rfl (by kernel_rfl) (enters_of Tryz.func64 (by kernel_rfl) rfl) (fun w hw => (rRank_any o t k w).mono (by rintro e w' ⟨rfl, hb⟩; exact ⟨rfl, hw.carry hb⟩))
      · exact step_binOp rfl (by exact ⟨_, rfl, by kernel_rfl⟩) _ _ _ _ _ _ _ rfl rfl rfl (fun w hw => (bin_geq .i64 _ _).trans (by simp; omega))
      · exact step_pick rfl trivial _ _ _ true rfl (by kernel_rfl) (by kernel_rfl)
      · exact step_move rfl trivial _ rfl (by kernel_rfl)
      · exact step_load rfl (by exact ⟨_, rfl, by kernel_rfl⟩) _ _ _ rfl rfl (fun w hw => load_nt (hw.get 1 rfl))
      · exact step_call rfl (by exact ⟨_, rfl, by kernel_rfl⟩) 64 _ _ [(nt o (t') (k'))] rfl (by kernel_rfl) (enters_of Tryz.func64 (by kernel_rfl) rfl) (fun w hw => (rRank_any o (t') (k') w).mono (by rintro e w' ⟨rfl, hb⟩; exact ⟨rfl, hw.carry hb⟩))
      · exact step_binOp rfl (by exact ⟨_, rfl, by kernel_rfl⟩) _ _ _ _ _ _ _ rfl rfl rfl (fun w hw => (bin_geq .i64 _ _).trans (by simp [h2]))
      · exact step_pick rfl trivial _ _ _ true rfl (by kernel_rfl) (by kernel_rfl)
      · exact step_move rfl trivial _ rfl (by kernel_rfl)
      · exact step_skip rfl 15 true 20 (.bool false) rfl rfl (by kernel_rfl) (by intro h; cases h) rfl
      · exact step_skip rfl 15 true 20 (.bool false) rfl rfl (by kernel_rfl) (by intro h; cases h) rfl
      · exact step_skip rfl 15 true 20 (.bool false) rfl rfl (by kernel_rfl) (by intro h; cases h) rfl
      · exact step_skip rfl 15 true 20 (.bool false) rfl rfl (by kernel_rfl) (by intro h; cases h) rfl
      · exact step_skip rfl 15 true 20 (.bool false) rfl rfl (by kernel_rfl) (by intro h; cases h) rfl
      · exact step_pick rfl trivial _ _ _ false rfl (by kernel_rfl) (by kernel_rfl)
      · exact step_assign rfl trivial _ rfl (by kernel_rfl) (fun _ h => h)
    intro W hW
    first | refine hK _ _ ?_ | refine (‹∀ (a : Act) (w : World), Code.wp Tryz.prog _ _ a w → _›) _ _ ?_
    simp only [finL, List.getD_cons_zero, List.getD_cons_succ, Nat.zero_add, Nat.reduceAdd, List.setIfInBounds_toArray, List.set_cons_zero, List.set_cons_succ]
    go_wp2
    go_ret
    exact ⟨rfl, hW.below⟩

  case neg =>
    have hb : bt o t k o t' k' = decide (rk t' k' < rk t k) := by
      unfold bt
      simp [h1, h2]
    rw [hb]
    go_enter Tryz.func42, Tryz.ntmps42
    unfold nt
    go_wp2
    rename_i Q0 K0 hK
    refine wp_region_any hmx ?_
    refine wpAny_pure (fun i__ => ([(.pointer (some ⟨w.heap.size, 0, none⟩)), (.int .i64 o), (.pointer (some ⟨(w.heap.size + 1), 0, none⟩)), (.int .i64 o), (.bool true), (.bool true), (nt o t k), (.int .i64 (rk t k)), (.bool true), (.bool true), (.bool true), (nt o (t') (k')), (.int .i64 (rk (t') (k'))), (.bool true), (.bool true), (.bool true), (nt o t k), (.int .i64 (rk t k)), (nt o (t') (k')), (.int .i64 (rk (t') (k'))), (.bool (decide (rk t' k' < rk t k))), (.bool (decide (rk t' k' < rk t k))), (.bool (decide (rk t' k' < rk t k)))] : List Value).getD i__ undef) (fun W => JL w [(w.heap.size, o, t, k), (w.heap.size + 1, o, t', k')] W) (by kernel_rfl) (hj0.carry (Below.refl _ _).drew) ?_ ?_
    · refine (stepsFrom_cons ?_ (stepsFrom_cons ?_ (stepsFrom_cons ?_ (stepsFrom_cons ?_ (stepsFrom_cons ?_ (stepsFrom_cons ?_ (stepsFrom_cons ?_ (stepsFrom_cons ?_ (stepsFrom_cons ?_ (stepsFrom_cons ?_ (stepsFrom_cons ?_ (stepsFrom_cons ?_ (stepsFrom_cons ?_ (stepsFrom_cons ?_ (stepsFrom_cons ?_ (stepsFrom_cons ?_ (stepsFrom_cons ?_ (stepsFrom_cons ?_ (stepsFrom_cons ?_ (stepsFrom_cons ?_ (stepsFrom_cons ?_ (stepsFrom_cons ?_ (stepsFrom_cons ?_ trivial)))))))))))))))))))))))
      · exact step_fieldAddr rfl trivial _ _ _ _ rfl rfl (fun w hw => field_n0 w _)
      · exact step_load rfl trivial _ _ _ rfl rfl (fun w hw => load_n0 (hw.get 0 rfl))
      · exact step_fieldAddr rfl trivial _ _ _ _ rfl rfl (fun w hw => field_n0 w _)
      · exact step_load rfl trivial _ _ _ rfl rfl (fun w hw => load_n0 (hw.get 1 rfl))
      · exact step_binOp rfl trivial _ _ _ _ _ _ _ rfl rfl rfl (fun w hw => (bin_eql .i64 _ _).trans (by simp))
      · exact step_move rfl trivial _ rfl (by kernel_rfl)
      · exact step_load rfl (by exact ⟨_, rfl, by kernel_rfl⟩) _ _ _ rfl rfl (fun w hw => load_nt (hw.get 0 rfl))
      · exact step_call rfl (by exact ⟨_, rfl, by kernel_rfl⟩) 64 _ _ [(nt o t k)] rfl (by kernel_rfl) (enters_of Tryz.func64 (by kernel_rfl) rfl) (fun w hw => (rRank_any o t k w).mono (by rintro e w' ⟨rfl, hb⟩; exact ⟨rfl, hw.carry hb⟩))
      · exact step_binOp rfl (by exact ⟨_, rfl, by kernel_rfl⟩) _ _ _ _ _ _ _ rfl rfl rfl (fun w hw => (bin_geq .i64 _ _).trans (by simp; omega))
      · exact step_pick rfl trivial _ _ _ true rfl (by kernel_rfl) (by kernel_rfl)
      · exact step_move rfl trivial _ rfl (by kernel_rfl)
      · exact step_load rfl (by exact ⟨_, rfl, by kernel_rfl⟩) _ _ _ rfl rfl (fun w hw => load_nt (hw.get 1 rfl))
      · exact step_call rfl (by exact ⟨_, rfl, by kernel_rfl⟩) 64 _ _ [(nt o (t') (k'))] rfl (by kernel_rfl) (enters_of Tryz.func64 (by kernel_rfl) rfl) (fun w hw => (rRank_any o (t') (k') w).mono (by rintro e w' ⟨rfl, hb⟩; exact ⟨rfl, hw.carry hb⟩))
      · exact step_binOp rfl (by exact ⟨_, rfl, by kernel_rfl⟩) _ _ _ _ _ _ _ rfl rfl rfl (fun w hw => (bin_geq .i64 _ _).trans (by simp; omega))
      · exact step_pick rfl trivial _ _ _ true rfl (by kernel_rfl) (by kernel_rfl)
      · exact step_move rfl trivial _ rfl (by kernel_rfl)
      · exact step_load rfl (by exact ⟨_, rfl, by kernel_rfl⟩) _ _ _ rfl rfl (fun w hw => load_nt (hw.get 0 rfl))
      · exact step_call rfl (by exact ⟨_, rfl, by kernel_rfl⟩) 64 _ _ [(nt o t k)] rfl (by kernel_rfl) (enters_of Tryz.func64 (by kernel_rfl) rfl) (fun w hw => (rRank_any o t k w).mono (by rintro e w' ⟨rfl, hb⟩; exact ⟨rfl, hw.carry hb⟩))
      · exact step_load rfl (by exact ⟨_, rfl, by kernel_rfl⟩) _ _ _ rfl rfl (fun w hw => load_nt (hw.get 1 rfl))
      · exact step_call rfl (by exact ⟨_, rfl, by kernel_rfl⟩) 64 _ _ [(nt o (t') (k'))] rfl (by kernel_rfl) (enters_of Tryz.func64 (by kernel_rfl) rfl) (fun w hw => (rRank_any o (t') (k') w).mono (by rintro e w' ⟨rfl, hb⟩; exact ⟨rfl, hw.carry hb⟩))
      · exact step_binOp rfl (by exact ⟨_, rfl, by kernel_rfl⟩) _ _ _ _ _ _ _ rfl rfl rfl (fun w hw => (bin_gtr .i64 _ _).trans rfl)
      · exact step_pick rfl trivial _ _ _ true rfl (by kernel_rfl) (by kernel_rfl)
      · exact step_assign rfl trivial _ rfl (by kernel_rfl) (fun _ h => h)
    intro W hW
    first | refine hK _ _ ?_ | refine (‹∀ (a : Act) (w : World), Code.wp Tryz.prog _ _ a w → _›) _ _ ?_
    simp only [finL, List.getD_cons_zero, List.getD_cons_succ, Nat.zero_add, Nat.reduceAdd, List.setIfInBounds_toArray, List.set_cons_zero, List.set_cons_succ]
    go_wp2
    go_ret
    exact ⟨rfl, hW.below⟩

end Go.Proofs.YtlpmehmoeladjaaGreatDoor
namespace Go.Proofs.YtlpmehmoeladjaaGreatDoor
open Go.RowKit Go.Shelf

/-- From there on these notices lie. -/
def NtsAt (W : World) (b off : Nat) (l : List (Int × Int × Int)) : Prop := ∀ k x, l[k]? = some x → W.cell? ⟨b, off + k * 3, none⟩ = some (.int .i64 x.1) ∧ W.cell? ⟨b, off + k * 3 + 1, none⟩ = some (.int .i64 x.2.1) ∧ W.cell? ⟨b, off + k * 3 + 2, none⟩ = some (.int .i64 x.2.2)
/-- A slice of these notices. -/
def RdN (W : World) (ad : Option Addr) (l : List (Int × Int × Int)) : Prop := l ≠ [] → ∃ b off, ad = some ⟨b, off, none⟩ ∧ b < W.heap.size ∧ NtsAt W b off l
theorem RdN.carry {W W' : World} {ad : Option Addr} {l : List (Int × Int × Int)} (h : RdN W ad l) (hb : Below W.heap.size W W') : RdN W' ad l := by
  intro hl
  obtain ⟨b, off, h1, h2, h3⟩ := h hl
  refine ⟨b, off, h1, Nat.lt_of_lt_of_le h2 hb.size, fun k x hk => ?_⟩
  obtain ⟨c0, c1, c2⟩ := h3 k x hk
  exact ⟨(hb.cell (p := ⟨b, _, none⟩) h2).trans c0, (hb.cell (p := ⟨b, _, none⟩) h2).trans c1, (hb.cell (p := ⟨b, _, none⟩) h2).trans c2⟩
/-- Are they of rising nodes, from there on? -/
def ris (n : Int) : Int → List (Int × Int × Int) → Bool
  | _, [] => true
  | a, x :: r => vl n x.1 x.2.1 x.2.2 && (decide (a < x.1) && ris n x.1 r)
theorem ris_step (n a : Int) (x : Int × Int × Int) (l : List (Int × Int × Int)) (k : Nat) (h : l[k]? = some x) : ris n a (l.drop k) = (vl n x.1 x.2.1 x.2.2 && (decide (a < x.1) && ris n x.1 (l.drop (k + 1)))) := by
  obtain ⟨hk, rfl⟩ := List.getElem?_eq_some_iff.1 h
  rw [List.drop_eq_getElem_cons hk]
  rfl
def vnatR (v : Value) : Nat := match v with | .int _ n => n.toNat | _ => 0
end Go.Proofs.YtlpmehmoeladjaaGreatDoor
namespace Go.Proofs.YtlpmehmoeladjaaGreatDoor
open Go.RowKit Go.Shelf

/-- The cells of notices. -/
def fl (l : List (Int × Int × Int)) : List Value := l.flatMap fun x => [.int .i64 x.1, .int .i64 x.2.1, .int .i64 x.2.2]
theorem fl_nil : fl [] = [] := rfl
theorem fl_cons (x : Int × Int × Int) (l : List (Int × Int × Int)) : fl (x :: l) = .int .i64 x.1 :: .int .i64 x.2.1 :: .int .i64 x.2.2 :: fl l := rfl
theorem fl_append (a b : List (Int × Int × Int)) : fl (a ++ b) = fl a ++ fl b := by simp [fl]
theorem fl_len : ∀ l : List (Int × Int × Int), (fl l).length = l.length * 3
  | [] => rfl
  | x :: l => by rw [fl_cons]; simp only [List.length_cons, fl_len l]; omega
theorem fl_get : ∀ (l : List (Int × Int × Int)) (k : Nat) (x : Int × Int × Int), l[k]? = some x → (fl l)[k * 3]? = some (.int .i64 x.1) ∧ (fl l)[k * 3 + 1]? = some (.int .i64 x.2.1) ∧ (fl l)[k * 3 + 2]? = some (.int .i64 x.2.2)
  | [], k, x, h => by simp at h
  | y :: l, 0, x, h => by
    simp at h
    subst h
    exact ⟨rfl, rfl, rfl⟩
  | y :: l, k + 1, x, h => by
    have ih := fl_get l k x (by simpa using h)
    rw [fl_cons, show (k + 1) * 3 = k * 3 + 3 by omega]
    exact ih
theorem fl_inv : ∀ (l : List (Int × Int × Int)) (j : Nat) (u : Value), (fl l)[j]? = some u → ∃ k x, l[k]? = some x ∧ ((j = k * 3 ∧ u = .int .i64 x.1) ∨ (j = k * 3 + 1 ∧ u = .int .i64 x.2.1) ∨ (j = k * 3 + 2 ∧ u = .int .i64 x.2.2))
  | [], j, u, h => by simp [fl_nil] at h
  | y :: l, 0, u, h => ⟨0, y, rfl, .inl ⟨rfl, (Option.some.inj h).symm⟩⟩
  | y :: l, 1, u, h => ⟨0, y, rfl, .inr (.inl ⟨rfl, (Option.some.inj h).symm⟩)⟩
  | y :: l, 2, u, h => ⟨0, y, rfl, .inr (.inr ⟨rfl, (Option.some.inj h).symm⟩)⟩
  | y :: l, j + 3, u, h => by
    obtain ⟨k, x, h1, h2⟩ := fl_inv l j u h
    refine ⟨k + 1, x, by simpa using h1, ?_⟩
    rcases h2 with ⟨e, f⟩ | ⟨e, f⟩ | ⟨e, f⟩
    · exact .inl ⟨by omega, f⟩
    · exact .inr (.inl ⟨by omega, f⟩)
    · exact .inr (.inr ⟨by omega, f⟩)
theorem fl_one (l : List (Int × Int × Int)) : ∀ u ∈ fl l, u.oneCell' = true := by
  intro u hu
  obtain ⟨j, hj⟩ := List.mem_iff_getElem?.1 hu
  obtain ⟨k, x, _, h⟩ := fl_inv l j u hj
  rcases h with ⟨_, rfl⟩ | ⟨_, rfl⟩ | ⟨_, rfl⟩ <;> rfl
theorem add_pl (b off j : Nat) : (⟨b, off, none⟩ : Addr).add j = ⟨b, off + j, none⟩ := by unfold Addr.add; split <;> simp_all
theorem nts_src {W : World} {b off : Nat} {l : List (Int × Int × Int)} (h : NtsAt W b off l) : ∀ j u, (fl l)[j]? = some u → W.cell? ((⟨b, off, none⟩ : Addr).add j) = some u := by
  intro j u hj
  rw [add_pl]
  obtain ⟨k, x, hx, e⟩ := fl_inv l j u hj
  obtain ⟨c0, c1, c2⟩ := h k x hx
  rcases e with ⟨rfl, rfl⟩ | ⟨rfl, rfl⟩ | ⟨rfl, rfl⟩
  · exact c0
  · exact c1
  · exact c2
theorem nts_own {W : World} {base g n cap : Nat} {l : List (Int × Int × Int)} (h : W.ownsRow base 60 3 (.slice (some ⟨g, 0, none⟩) n cap) n (fl l)) (hn : n = l.length) : NtsAt W g 0 l := by
  intro k x hk
  have hlt : k < l.length := (List.getElem?_eq_some_iff.1 hk).1
  obtain ⟨c0, c1, c2⟩ := fl_get l k x hk
  rw [Nat.zero_add]
  exact ⟨(h.cellAt _ (by omega)).trans c0, (h.cellAt _ (by omega)).trans c1, (h.cellAt _ (by omega)).trans c2⟩
theorem infoN : (Tryz.prog.info? 60).map (fun i => (i.zero, i.size, i.bytes)) = some (some (.agg #[.int .i64 0, .int .i64 0, .int .i64 0]), 3, 24) := by kernel_rfl
theorem info_partsN : ∃ i, Tryz.prog.info? 60 = some i ∧ i.zero = some (.agg #[.int .i64 0, .int .i64 0, .int .i64 0]) ∧ i.size = 3 ∧ i.bytes = 24 := by
  have h := infoN
  cases hi : Tryz.prog.info? 60 with
  | none => rw [hi] at h; cases h
  | some i =>
    rw [hi] at h
    simp only [Option.map_some, Option.some.injEq, Prod.mk.injEq] at h
    exact ⟨i, rfl, h.1, h.2.1, h.2.2⟩
theorem own_form {w : World} {base : Nat} {e : TypeId} {size : Nat} {v : Value} {n : Nat} {xs : List Value} (h : w.ownsRow base e size v n xs) : (v = .slice none 0 0 ∧ n = 0) ∨ ∃ g cap, v = .slice (some ⟨g, 0, none⟩) n cap ∧ base ≤ g ∧ g < w.heap.size ∧ n ≤ cap := by
  rcases h.2 with ⟨rfl, rfl⟩ | ⟨g, cap, cur, rfl, h4, h5, h6, _⟩
  · exact .inl ⟨rfl, rfl⟩
  · exact .inr ⟨g, cap, rfl, h4, lt_at h5, h6⟩
theorem own_block {w : World} {base : Nat} {e : TypeId} {size : Nat} {v : Value} {n : Nat} {xs : List Value} (h : w.ownsRow base e size v n xs) : ∀ g, v.ownBlock = some g → base ≤ g := by
  intro g hg
  rcases h.2 with ⟨rfl, _⟩ | ⟨g', cap, cur, rfl, h4, h5, _⟩
  · simp [Value.ownBlock] at hg
  · simp [Value.ownBlock] at hg
    omega
theorem rowN (W : World) (cs : Array Value) (t : TypeId) : ∀ j u, cs.toList[j]? = some u → (W.alloc (.cells cs t)).cell? ((⟨W.heap.size, 0, none⟩ : Addr).add j) = some u := by
  intro j u h
  have hg : (W.alloc (.cells cs t)).heap[W.heap.size]? = some (.cells cs t) := new_at rfl
  rw [add_pl, Nat.zero_add, cell_at hg j, ← h]
  simp
end Go.Proofs.YtlpmehmoeladjaaGreatDoor
