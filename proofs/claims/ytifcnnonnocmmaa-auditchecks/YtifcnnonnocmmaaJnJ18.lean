import Derived.Test.YtifcnnonnocmmaaJnJ15
set_option maxHeartbeats 40000000
set_option maxRecDepth 100000
set_option linter.unusedVariables false
namespace Go.Proofs.Ytifcnnonnocmmaa
open Go.RowKit Go.Shelf Go.Lib
attribute [local go_sem] Oper.semAt_some
theorem hold_3 {w : World} {y : Nat} {n f : Int} {D : Ds} (h : De w y n f D) (hn : 1 ≤ n ∧ n ≤ 100) (hf : 0 ≤ f ∧ f < n) (nd li ro ta of du : Int) (he un : Nat) (hhe : he < S128) (hun : un < S128) : Calls Try.prog 12 #[.pointer (some ⟨y, 0, none⟩), evV ⟨3, nd, li, ro, ta, of, du, he, un⟩] w (Ho y n f w (hold n f D ⟨3, nd, li, ro, ta, of, du, he, un⟩)) := by
 have hmx : Try.prog.follows .mixedOrders = true := by kernel_rfl
 have hJ0 := JH.new h ⟨3, nd, li, ro, ta, of, du, he, un⟩
 unfold evV ecA
 go_enter Try.func12, Try.ntmps12
 go_wp2
 cases h1_0 : decide (nd < 0) with
 | true =>
  refine wp_region_any hmx ?_
  refine zwp (fun i__ => ([(.pointer (some ⟨w.heap.size, 0, none⟩)), (.int .i64 3), (.bool false), (.bool false), (.pointer (some ⟨w.heap.size, 0, none⟩)), (.int .i64 3), (.bool false), (.bool false), (.bool false), (.pointer (some ⟨w.heap.size, 1, none⟩)), (.int .i64 nd), (.bool true), (.bool true), (.bool true), undef, undef, undef, undef, undef, undef, undef, (.bool true), (.bool true), undef, undef, undef, (.bool true), (.bool true), undef, undef, undef, (.bool true), (.bool true), undef, undef, undef, (.bool true)] : List Value).getD i__ undef) (fun V => JH w y w.heap.size n f D ⟨3, nd, li, ro, ta, of, du, he, un⟩ V) (by kernel_rfl) (hJ0.carry (Below.refl _ _).drew) ?_ ?_
  · refine (sqc ?_ (sqc ?_ (sqc ?_ (sqc ?_ (sqc ?_ (sqc ?_ (sqc ?_ (sqc ?_ (sqc ?_ (sqc ?_ (sqc ?_ (sqc ?_ (sqc ?_ (sqc ?_ (sqc ?_ (sqc ?_ (sqc ?_ (sqc ?_ (sqc ?_ (sqc ?_ (sqc ?_ (sqc ?_ (sqc ?_ (sqc ?_ (sqc ?_ (sqc ?_ (sqc ?_ (sqc ?_ (sqc ?_ (sqc ?_ (sqc ?_ (sqc ?_ (sqc ?_ (sqc ?_ (sqc ?_ (sqc ?_ (sqc ?_ trivial)))))))))))))))))))))))))))))))))))))
    · exact zfa rfl trivial _ _ _ _ rfl rfl (fun w hw => faE0 w _ _)
    · exact zld rfl trivial _ _ _ rfl rfl (fun w hw => load_in ((zca hw.bx 0).trans rfl))
    · exact zbo rfl trivial _ _ _ _ _ _ _ rfl rfl rfl (fun w hw => bin_lss _ _ _)
    · exact zmv rfl trivial _ rfl (by kernel_rfl)
    · exact zfa rfl ⟨_, rfl, by kernel_rfl⟩ _ _ _ _ rfl rfl (fun w hw => faE0 w _ _)
    · exact zld rfl ⟨_, rfl, by kernel_rfl⟩ _ _ _ rfl rfl (fun w hw => load_in ((zca hw.bx 0).trans rfl))
    · exact zbo rfl ⟨_, rfl, by kernel_rfl⟩ _ _ _ _ _ _ _ rfl rfl rfl (fun w hw => bin_gtr _ _ _)
    · exact step_pick rfl trivial _ _ _ false rfl (by kernel_rfl) (by kernel_rfl)
    · exact zmv rfl trivial _ rfl (by kernel_rfl)
    · exact zfa rfl ⟨_, rfl, by kernel_rfl⟩ _ _ _ _ rfl rfl (fun w hw => faE1 w _ _)
    · exact zld rfl ⟨_, rfl, by kernel_rfl⟩ _ _ _ rfl rfl (fun w hw => load_in ((zca hw.bx 1).trans rfl))
    · exact zbo rfl ⟨_, rfl, by kernel_rfl⟩ _ _ _ _ _ _ _ rfl rfl rfl (fun w hw => by rw [← h1_0]; exact bin_lss _ _ _)
    · exact step_pick rfl trivial _ _ _ false rfl (by kernel_rfl) (by kernel_rfl)
    · exact zmv rfl trivial _ rfl (by kernel_rfl)
    · exact zsk rfl 13 false 19 (.bool true) rfl rfl (by kernel_rfl) (by intro h; cases h) rfl
    · exact zsk rfl 13 false 19 (.bool true) rfl rfl (by kernel_rfl) (by intro h; cases h) rfl
    · exact zsk rfl 13 false 19 (.bool true) rfl rfl (by kernel_rfl) (by intro h; cases h) rfl
    · exact zsk rfl 13 false 19 (.bool true) rfl rfl (by kernel_rfl) (by intro h; cases h) rfl
    · exact zsk rfl 13 false 19 (.bool true) rfl rfl (by kernel_rfl) (by intro h; cases h) rfl
    · exact zsk rfl 13 false 19 (.bool true) rfl rfl (by kernel_rfl) (by intro h; cases h) rfl
    · exact zsk rfl 13 false 19 (.bool true) rfl rfl (by kernel_rfl) (by intro h; cases h) rfl
    · exact step_pick rfl trivial _ _ _ true rfl (by kernel_rfl) (by kernel_rfl)
    · exact zmv rfl trivial _ rfl (by kernel_rfl)
    · exact zsk rfl 22 false 28 (.bool true) rfl rfl (by kernel_rfl) (by intro h; cases h) rfl
    · exact zsk rfl 22 false 28 (.bool true) rfl rfl (by kernel_rfl) (by intro h; cases h) rfl
    · exact zsk rfl 22 false 28 (.bool true) rfl rfl (by kernel_rfl) (by intro h; cases h) rfl
    · exact step_pick rfl trivial _ _ _ true rfl (by kernel_rfl) (by kernel_rfl)
    · exact zmv rfl trivial _ rfl (by kernel_rfl)
    · exact zsk rfl 27 false 33 (.bool true) rfl rfl (by kernel_rfl) (by intro h; cases h) rfl
    · exact zsk rfl 27 false 33 (.bool true) rfl rfl (by kernel_rfl) (by intro h; cases h) rfl
    · exact zsk rfl 27 false 33 (.bool true) rfl rfl (by kernel_rfl) (by intro h; cases h) rfl
    · exact step_pick rfl trivial _ _ _ true rfl (by kernel_rfl) (by kernel_rfl)
    · exact zmv rfl trivial _ rfl (by kernel_rfl)
    · exact zsk rfl 32 false 38 (.bool true) rfl rfl (by kernel_rfl) (by intro h; cases h) rfl
    · exact zsk rfl 32 false 38 (.bool true) rfl rfl (by kernel_rfl) (by intro h; cases h) rfl
    · exact zsk rfl 32 false 38 (.bool true) rfl rfl (by kernel_rfl) (by intro h; cases h) rfl
    · exact step_pick rfl trivial _ _ _ true rfl (by kernel_rfl) (by kernel_rfl)
  intro W hW
  first | refine hK _ _ ?_ | refine (‹∀ (a : Act) (w : World), Code.wp Try.prog _ _ a w → _›) _ _ ?_ | skip
  simp only [finL, List.getD_cons_zero, List.getD_cons_succ, Nat.zero_add, Nat.reduceAdd, List.setIfInBounds_toArray, List.set_cons_zero, List.set_cons_succ]
  go_wp2
  go_ret
  exact ho_no (by unfold hold dpre; try simp only [h1_0]; rfl) hW.tn
 | false =>
  cases h1_1 : decide (nd ≥ n) with
  | true =>
    refine wp_region_any hmx ?_
    refine zwp (fun i__ => ([(.pointer (some ⟨w.heap.size, 0, none⟩)), (.int .i64 3), (.bool false), (.bool false), (.pointer (some ⟨w.heap.size, 0, none⟩)), (.int .i64 3), (.bool false), (.bool false), (.bool false), (.pointer (some ⟨w.heap.size, 1, none⟩)), (.int .i64 nd), (.bool false), (.bool false), (.bool false), (.pointer (some ⟨w.heap.size, 1, none⟩)), (.int .i64 nd), (.pointer (some ⟨y, 0, none⟩)), (.pointer (some ⟨y, 0, none⟩)), (.pointer (some ⟨y, 0, none⟩)), (.int .i64 n), (.bool true), (.bool true), (.bool true), undef, undef, undef, (.bool true), (.bool true), undef, undef, undef, (.bool true), (.bool true), undef, undef, undef, (.bool true)] : List Value).getD i__ undef) (fun V => JH w y w.heap.size n f D ⟨3, nd, li, ro, ta, of, du, he, un⟩ V) (by kernel_rfl) (hJ0.carry (Below.refl _ _).drew) ?_ ?_
    · refine (sqc ?_ (sqc ?_ (sqc ?_ (sqc ?_ (sqc ?_ (sqc ?_ (sqc ?_ (sqc ?_ (sqc ?_ (sqc ?_ (sqc ?_ (sqc ?_ (sqc ?_ (sqc ?_ (sqc ?_ (sqc ?_ (sqc ?_ (sqc ?_ (sqc ?_ (sqc ?_ (sqc ?_ (sqc ?_ (sqc ?_ (sqc ?_ (sqc ?_ (sqc ?_ (sqc ?_ (sqc ?_ (sqc ?_ (sqc ?_ (sqc ?_ (sqc ?_ (sqc ?_ (sqc ?_ (sqc ?_ (sqc ?_ (sqc ?_ trivial)))))))))))))))))))))))))))))))))))))
      · exact zfa rfl trivial _ _ _ _ rfl rfl (fun w hw => faE0 w _ _)
      · exact zld rfl trivial _ _ _ rfl rfl (fun w hw => load_in ((zca hw.bx 0).trans rfl))
      · exact zbo rfl trivial _ _ _ _ _ _ _ rfl rfl rfl (fun w hw => bin_lss _ _ _)
      · exact zmv rfl trivial _ rfl (by kernel_rfl)
      · exact zfa rfl ⟨_, rfl, by kernel_rfl⟩ _ _ _ _ rfl rfl (fun w hw => faE0 w _ _)
      · exact zld rfl ⟨_, rfl, by kernel_rfl⟩ _ _ _ rfl rfl (fun w hw => load_in ((zca hw.bx 0).trans rfl))
      · exact zbo rfl ⟨_, rfl, by kernel_rfl⟩ _ _ _ _ _ _ _ rfl rfl rfl (fun w hw => bin_gtr _ _ _)
      · exact step_pick rfl trivial _ _ _ false rfl (by kernel_rfl) (by kernel_rfl)
      · exact zmv rfl trivial _ rfl (by kernel_rfl)
      · exact zfa rfl ⟨_, rfl, by kernel_rfl⟩ _ _ _ _ rfl rfl (fun w hw => faE1 w _ _)
      · exact zld rfl ⟨_, rfl, by kernel_rfl⟩ _ _ _ rfl rfl (fun w hw => load_in ((zca hw.bx 1).trans rfl))
      · exact zbo rfl ⟨_, rfl, by kernel_rfl⟩ _ _ _ _ _ _ _ rfl rfl rfl (fun w hw => by rw [← h1_0]; exact bin_lss _ _ _)
      · exact step_pick rfl trivial _ _ _ false rfl (by kernel_rfl) (by kernel_rfl)
      · exact zmv rfl trivial _ rfl (by kernel_rfl)
      · exact zfa rfl ⟨_, rfl, by kernel_rfl⟩ _ _ _ _ rfl rfl (fun w hw => faE1 w _ _)
      · exact zld rfl ⟨_, rfl, by kernel_rfl⟩ _ _ _ rfl rfl (fun w hw => load_in ((zca hw.bx 1).trans rfl))
      · exact zmv rfl ⟨_, rfl, by kernel_rfl⟩ _ rfl (by kernel_rfl)
      · exact znc rfl ⟨_, rfl, by kernel_rfl⟩ _ _ _ rfl rfl rfl
      · exact zfa rfl ⟨_, rfl, by kernel_rfl⟩ _ _ _ _ rfl rfl (fun w hw => faD0 w _ _)
      · exact zld rfl ⟨_, rfl, by kernel_rfl⟩ _ _ _ rfl rfl (fun w hw => load_in hw.de.c0)
      · exact zbo rfl ⟨_, rfl, by kernel_rfl⟩ _ _ _ _ _ _ _ rfl rfl rfl (fun w hw => by rw [← h1_1]; exact bin_geq _ _ _)
      · exact step_pick rfl trivial _ _ _ false rfl (by kernel_rfl) (by kernel_rfl)
      · exact zmv rfl trivial _ rfl (by kernel_rfl)
      · exact zsk rfl 22 false 28 (.bool true) rfl rfl (by kernel_rfl) (by intro h; cases h) rfl
      · exact zsk rfl 22 false 28 (.bool true) rfl rfl (by kernel_rfl) (by intro h; cases h) rfl
      · exact zsk rfl 22 false 28 (.bool true) rfl rfl (by kernel_rfl) (by intro h; cases h) rfl
      · exact step_pick rfl trivial _ _ _ true rfl (by kernel_rfl) (by kernel_rfl)
      · exact zmv rfl trivial _ rfl (by kernel_rfl)
      · exact zsk rfl 27 false 33 (.bool true) rfl rfl (by kernel_rfl) (by intro h; cases h) rfl
      · exact zsk rfl 27 false 33 (.bool true) rfl rfl (by kernel_rfl) (by intro h; cases h) rfl
      · exact zsk rfl 27 false 33 (.bool true) rfl rfl (by kernel_rfl) (by intro h; cases h) rfl
      · exact step_pick rfl trivial _ _ _ true rfl (by kernel_rfl) (by kernel_rfl)
      · exact zmv rfl trivial _ rfl (by kernel_rfl)
      · exact zsk rfl 32 false 38 (.bool true) rfl rfl (by kernel_rfl) (by intro h; cases h) rfl
      · exact zsk rfl 32 false 38 (.bool true) rfl rfl (by kernel_rfl) (by intro h; cases h) rfl
      · exact zsk rfl 32 false 38 (.bool true) rfl rfl (by kernel_rfl) (by intro h; cases h) rfl
      · exact step_pick rfl trivial _ _ _ true rfl (by kernel_rfl) (by kernel_rfl)
    intro W hW
    first | refine hK _ _ ?_ | refine (‹∀ (a : Act) (w : World), Code.wp Try.prog _ _ a w → _›) _ _ ?_ | skip
    simp only [finL, List.getD_cons_zero, List.getD_cons_succ, Nat.zero_add, Nat.reduceAdd, List.setIfInBounds_toArray, List.set_cons_zero, List.set_cons_succ]
    go_wp2
    go_ret
    exact ho_no (by unfold hold dpre; try simp only [h1_0]; try simp only [h1_1]; rfl) hW.tn
  | false =>
    cases h1_2 : decide (li < 1) with
    | true =>
      refine wp_region_any hmx ?_
      refine zwp (fun i__ => ([(.pointer (some ⟨w.heap.size, 0, none⟩)), (.int .i64 3), (.bool false), (.bool false), (.pointer (some ⟨w.heap.size, 0, none⟩)), (.int .i64 3), (.bool false), (.bool false), (.bool false), (.pointer (some ⟨w.heap.size, 1, none⟩)), (.int .i64 nd), (.bool false), (.bool false), (.bool false), (.pointer (some ⟨w.heap.size, 1, none⟩)), (.int .i64 nd), (.pointer (some ⟨y, 0, none⟩)), (.pointer (some ⟨y, 0, none⟩)), (.pointer (some ⟨y, 0, none⟩)), (.int .i64 n), (.bool false), (.bool false), (.bool false), (.pointer (some ⟨w.heap.size, 2, none⟩)), (.int .i64 li), (.bool true), (.bool true), (.bool true), undef, undef, undef, (.bool true), (.bool true), undef, undef, undef, (.bool true)] : List Value).getD i__ undef) (fun V => JH w y w.heap.size n f D ⟨3, nd, li, ro, ta, of, du, he, un⟩ V) (by kernel_rfl) (hJ0.carry (Below.refl _ _).drew) ?_ ?_
      · refine (sqc ?_ (sqc ?_ (sqc ?_ (sqc ?_ (sqc ?_ (sqc ?_ (sqc ?_ (sqc ?_ (sqc ?_ (sqc ?_ (sqc ?_ (sqc ?_ (sqc ?_ (sqc ?_ (sqc ?_ (sqc ?_ (sqc ?_ (sqc ?_ (sqc ?_ (sqc ?_ (sqc ?_ (sqc ?_ (sqc ?_ (sqc ?_ (sqc ?_ (sqc ?_ (sqc ?_ (sqc ?_ (sqc ?_ (sqc ?_ (sqc ?_ (sqc ?_ (sqc ?_ (sqc ?_ (sqc ?_ (sqc ?_ (sqc ?_ trivial)))))))))))))))))))))))))))))))))))))
        · exact zfa rfl trivial _ _ _ _ rfl rfl (fun w hw => faE0 w _ _)
        · exact zld rfl trivial _ _ _ rfl rfl (fun w hw => load_in ((zca hw.bx 0).trans rfl))
        · exact zbo rfl trivial _ _ _ _ _ _ _ rfl rfl rfl (fun w hw => bin_lss _ _ _)
        · exact zmv rfl trivial _ rfl (by kernel_rfl)
        · exact zfa rfl ⟨_, rfl, by kernel_rfl⟩ _ _ _ _ rfl rfl (fun w hw => faE0 w _ _)
        · exact zld rfl ⟨_, rfl, by kernel_rfl⟩ _ _ _ rfl rfl (fun w hw => load_in ((zca hw.bx 0).trans rfl))
        · exact zbo rfl ⟨_, rfl, by kernel_rfl⟩ _ _ _ _ _ _ _ rfl rfl rfl (fun w hw => bin_gtr _ _ _)
        · exact step_pick rfl trivial _ _ _ false rfl (by kernel_rfl) (by kernel_rfl)
        · exact zmv rfl trivial _ rfl (by kernel_rfl)
        · exact zfa rfl ⟨_, rfl, by kernel_rfl⟩ _ _ _ _ rfl rfl (fun w hw => faE1 w _ _)
        · exact zld rfl ⟨_, rfl, by kernel_rfl⟩ _ _ _ rfl rfl (fun w hw => load_in ((zca hw.bx 1).trans rfl))
        · exact zbo rfl ⟨_, rfl, by kernel_rfl⟩ _ _ _ _ _ _ _ rfl rfl rfl (fun w hw => by rw [← h1_0]; exact bin_lss _ _ _)
        · exact step_pick rfl trivial _ _ _ false rfl (by kernel_rfl) (by kernel_rfl)
        · exact zmv rfl trivial _ rfl (by kernel_rfl)
        · exact zfa rfl ⟨_, rfl, by kernel_rfl⟩ _ _ _ _ rfl rfl (fun w hw => faE1 w _ _)
        · exact zld rfl ⟨_, rfl, by kernel_rfl⟩ _ _ _ rfl rfl (fun w hw => load_in ((zca hw.bx 1).trans rfl))
        · exact zmv rfl ⟨_, rfl, by kernel_rfl⟩ _ rfl (by kernel_rfl)
        · exact znc rfl ⟨_, rfl, by kernel_rfl⟩ _ _ _ rfl rfl rfl
        · exact zfa rfl ⟨_, rfl, by kernel_rfl⟩ _ _ _ _ rfl rfl (fun w hw => faD0 w _ _)
        · exact zld rfl ⟨_, rfl, by kernel_rfl⟩ _ _ _ rfl rfl (fun w hw => load_in hw.de.c0)
        · exact zbo rfl ⟨_, rfl, by kernel_rfl⟩ _ _ _ _ _ _ _ rfl rfl rfl (fun w hw => by rw [← h1_1]; exact bin_geq _ _ _)
        · exact step_pick rfl trivial _ _ _ false rfl (by kernel_rfl) (by kernel_rfl)
        · exact zmv rfl trivial _ rfl (by kernel_rfl)
        · exact zfa rfl ⟨_, rfl, by kernel_rfl⟩ _ _ _ _ rfl rfl (fun w hw => faE2 w _ _)
        · exact zld rfl ⟨_, rfl, by kernel_rfl⟩ _ _ _ rfl rfl (fun w hw => load_in ((zca hw.bx 2).trans rfl))
        · exact zbo rfl ⟨_, rfl, by kernel_rfl⟩ _ _ _ _ _ _ _ rfl rfl rfl (fun w hw => by rw [← h1_2]; exact bin_lss _ _ _)
        · exact step_pick rfl trivial _ _ _ false rfl (by kernel_rfl) (by kernel_rfl)
        · exact zmv rfl trivial _ rfl (by kernel_rfl)
        · exact zsk rfl 27 false 33 (.bool true) rfl rfl (by kernel_rfl) (by intro h; cases h) rfl
        · exact zsk rfl 27 false 33 (.bool true) rfl rfl (by kernel_rfl) (by intro h; cases h) rfl
        · exact zsk rfl 27 false 33 (.bool true) rfl rfl (by kernel_rfl) (by intro h; cases h) rfl
        · exact step_pick rfl trivial _ _ _ true rfl (by kernel_rfl) (by kernel_rfl)
        · exact zmv rfl trivial _ rfl (by kernel_rfl)
        · exact zsk rfl 32 false 38 (.bool true) rfl rfl (by kernel_rfl) (by intro h; cases h) rfl
        · exact zsk rfl 32 false 38 (.bool true) rfl rfl (by kernel_rfl) (by intro h; cases h) rfl
        · exact zsk rfl 32 false 38 (.bool true) rfl rfl (by kernel_rfl) (by intro h; cases h) rfl
        · exact step_pick rfl trivial _ _ _ true rfl (by kernel_rfl) (by kernel_rfl)
      intro W hW
      first | refine hK _ _ ?_ | refine (‹∀ (a : Act) (w : World), Code.wp Try.prog _ _ a w → _›) _ _ ?_ | skip
      simp only [finL, List.getD_cons_zero, List.getD_cons_succ, Nat.zero_add, Nat.reduceAdd, List.setIfInBounds_toArray, List.set_cons_zero, List.set_cons_succ]
      go_wp2
      go_ret
      exact ho_no (by unfold hold dpre; try simp only [h1_0]; try simp only [h1_1]; try simp only [h1_2]; rfl) hW.tn
    | false =>
      cases h1_3 : decide (li > 1073741824) with
      | true =>
        refine wp_region_any hmx ?_
        refine zwp (fun i__ => ([(.pointer (some ⟨w.heap.size, 0, none⟩)), (.int .i64 3), (.bool false), (.bool false), (.pointer (some ⟨w.heap.size, 0, none⟩)), (.int .i64 3), (.bool false), (.bool false), (.bool false), (.pointer (some ⟨w.heap.size, 1, none⟩)), (.int .i64 nd), (.bool false), (.bool false), (.bool false), (.pointer (some ⟨w.heap.size, 1, none⟩)), (.int .i64 nd), (.pointer (some ⟨y, 0, none⟩)), (.pointer (some ⟨y, 0, none⟩)), (.pointer (some ⟨y, 0, none⟩)), (.int .i64 n), (.bool false), (.bool false), (.bool false), (.pointer (some ⟨w.heap.size, 2, none⟩)), (.int .i64 li), (.bool false), (.bool false), (.bool false), (.pointer (some ⟨w.heap.size, 2, none⟩)), (.int .i64 li), (.bool true), (.bool true), (.bool true), undef, undef, undef, (.bool true)] : List Value).getD i__ undef) (fun V => JH w y w.heap.size n f D ⟨3, nd, li, ro, ta, of, du, he, un⟩ V) (by kernel_rfl) (hJ0.carry (Below.refl _ _).drew) ?_ ?_
        · refine (sqc ?_ (sqc ?_ (sqc ?_ (sqc ?_ (sqc ?_ (sqc ?_ (sqc ?_ (sqc ?_ (sqc ?_ (sqc ?_ (sqc ?_ (sqc ?_ (sqc ?_ (sqc ?_ (sqc ?_ (sqc ?_ (sqc ?_ (sqc ?_ (sqc ?_ (sqc ?_ (sqc ?_ (sqc ?_ (sqc ?_ (sqc ?_ (sqc ?_ (sqc ?_ (sqc ?_ (sqc ?_ (sqc ?_ (sqc ?_ (sqc ?_ (sqc ?_ (sqc ?_ (sqc ?_ (sqc ?_ (sqc ?_ (sqc ?_ trivial)))))))))))))))))))))))))))))))))))))
          · exact zfa rfl trivial _ _ _ _ rfl rfl (fun w hw => faE0 w _ _)
          · exact zld rfl trivial _ _ _ rfl rfl (fun w hw => load_in ((zca hw.bx 0).trans rfl))
          · exact zbo rfl trivial _ _ _ _ _ _ _ rfl rfl rfl (fun w hw => bin_lss _ _ _)
          · exact zmv rfl trivial _ rfl (by kernel_rfl)
          · exact zfa rfl ⟨_, rfl, by kernel_rfl⟩ _ _ _ _ rfl rfl (fun w hw => faE0 w _ _)
          · exact zld rfl ⟨_, rfl, by kernel_rfl⟩ _ _ _ rfl rfl (fun w hw => load_in ((zca hw.bx 0).trans rfl))
          · exact zbo rfl ⟨_, rfl, by kernel_rfl⟩ _ _ _ _ _ _ _ rfl rfl rfl (fun w hw => bin_gtr _ _ _)
          · exact step_pick rfl trivial _ _ _ false rfl (by kernel_rfl) (by kernel_rfl)
          · exact zmv rfl trivial _ rfl (by kernel_rfl)
          · exact zfa rfl ⟨_, rfl, by kernel_rfl⟩ _ _ _ _ rfl rfl (fun w hw => faE1 w _ _)
          · exact zld rfl ⟨_, rfl, by kernel_rfl⟩ _ _ _ rfl rfl (fun w hw => load_in ((zca hw.bx 1).trans rfl))
          · exact zbo rfl ⟨_, rfl, by kernel_rfl⟩ _ _ _ _ _ _ _ rfl rfl rfl (fun w hw => by rw [← h1_0]; exact bin_lss _ _ _)
          · exact step_pick rfl trivial _ _ _ false rfl (by kernel_rfl) (by kernel_rfl)
          · exact zmv rfl trivial _ rfl (by kernel_rfl)
          · exact zfa rfl ⟨_, rfl, by kernel_rfl⟩ _ _ _ _ rfl rfl (fun w hw => faE1 w _ _)
          · exact zld rfl ⟨_, rfl, by kernel_rfl⟩ _ _ _ rfl rfl (fun w hw => load_in ((zca hw.bx 1).trans rfl))
          · exact zmv rfl ⟨_, rfl, by kernel_rfl⟩ _ rfl (by kernel_rfl)
          · exact znc rfl ⟨_, rfl, by kernel_rfl⟩ _ _ _ rfl rfl rfl
          · exact zfa rfl ⟨_, rfl, by kernel_rfl⟩ _ _ _ _ rfl rfl (fun w hw => faD0 w _ _)
          · exact zld rfl ⟨_, rfl, by kernel_rfl⟩ _ _ _ rfl rfl (fun w hw => load_in hw.de.c0)
          · exact zbo rfl ⟨_, rfl, by kernel_rfl⟩ _ _ _ _ _ _ _ rfl rfl rfl (fun w hw => by rw [← h1_1]; exact bin_geq _ _ _)
          · exact step_pick rfl trivial _ _ _ false rfl (by kernel_rfl) (by kernel_rfl)
          · exact zmv rfl trivial _ rfl (by kernel_rfl)
          · exact zfa rfl ⟨_, rfl, by kernel_rfl⟩ _ _ _ _ rfl rfl (fun w hw => faE2 w _ _)
          · exact zld rfl ⟨_, rfl, by kernel_rfl⟩ _ _ _ rfl rfl (fun w hw => load_in ((zca hw.bx 2).trans rfl))
          · exact zbo rfl ⟨_, rfl, by kernel_rfl⟩ _ _ _ _ _ _ _ rfl rfl rfl (fun w hw => by rw [← h1_2]; exact bin_lss _ _ _)
          · exact step_pick rfl trivial _ _ _ false rfl (by kernel_rfl) (by kernel_rfl)
          · exact zmv rfl trivial _ rfl (by kernel_rfl)
          · exact zfa rfl ⟨_, rfl, by kernel_rfl⟩ _ _ _ _ rfl rfl (fun w hw => faE2 w _ _)
          · exact zld rfl ⟨_, rfl, by kernel_rfl⟩ _ _ _ rfl rfl (fun w hw => load_in ((zca hw.bx 2).trans rfl))
          · exact zbo rfl ⟨_, rfl, by kernel_rfl⟩ _ _ _ _ _ _ _ rfl rfl rfl (fun w hw => by rw [← h1_3]; exact bin_gtr _ _ _)
          · exact step_pick rfl trivial _ _ _ false rfl (by kernel_rfl) (by kernel_rfl)
          · exact zmv rfl trivial _ rfl (by kernel_rfl)
          · exact zsk rfl 32 false 38 (.bool true) rfl rfl (by kernel_rfl) (by intro h; cases h) rfl
          · exact zsk rfl 32 false 38 (.bool true) rfl rfl (by kernel_rfl) (by intro h; cases h) rfl
          · exact zsk rfl 32 false 38 (.bool true) rfl rfl (by kernel_rfl) (by intro h; cases h) rfl
          · exact step_pick rfl trivial _ _ _ true rfl (by kernel_rfl) (by kernel_rfl)
        intro W hW
        first | refine hK _ _ ?_ | refine (‹∀ (a : Act) (w : World), Code.wp Try.prog _ _ a w → _›) _ _ ?_ | skip
        simp only [finL, List.getD_cons_zero, List.getD_cons_succ, Nat.zero_add, Nat.reduceAdd, List.setIfInBounds_toArray, List.set_cons_zero, List.set_cons_succ]
        go_wp2
        go_ret
        exact ho_no (by unfold hold dpre; try simp only [h1_0]; try simp only [h1_1]; try simp only [h1_2]; try simp only [h1_3]; rfl) hW.tn
      | false =>
        cases h1_4 : eqEv ⟨3, nd, li, ro, ta, of, du, he, un⟩ (bareE ⟨3, nd, li, ro, ta, of, du, he, un⟩) with
        | true =>
          refine wp_region_any hmx ?_
          refine zwp (fun i__ => ([(.pointer (some ⟨w.heap.size, 0, none⟩)), (.int .i64 3), (.bool false), (.bool false), (.pointer (some ⟨w.heap.size, 0, none⟩)), (.int .i64 3), (.bool false), (.bool false), (.bool false), (.pointer (some ⟨w.heap.size, 1, none⟩)), (.int .i64 nd), (.bool false), (.bool false), (.bool false), (.pointer (some ⟨w.heap.size, 1, none⟩)), (.int .i64 nd), (.pointer (some ⟨y, 0, none⟩)), (.pointer (some ⟨y, 0, none⟩)), (.pointer (some ⟨y, 0, none⟩)), (.int .i64 n), (.bool false), (.bool false), (.bool false), (.pointer (some ⟨w.heap.size, 2, none⟩)), (.int .i64 li), (.bool false), (.bool false), (.bool false), (.pointer (some ⟨w.heap.size, 2, none⟩)), (.int .i64 li), (.bool false), (.bool false), (.bool false), (evV ⟨3, nd, li, ro, ta, of, du, he, un⟩), (.bool true), (.bool false), (.bool false)] : List Value).getD i__ undef) (fun V => JH w y w.heap.size n f D ⟨3, nd, li, ro, ta, of, du, he, un⟩ V) (by kernel_rfl) (hJ0.carry (Below.refl _ _).drew) ?_ ?_
          · refine (sqc ?_ (sqc ?_ (sqc ?_ (sqc ?_ (sqc ?_ (sqc ?_ (sqc ?_ (sqc ?_ (sqc ?_ (sqc ?_ (sqc ?_ (sqc ?_ (sqc ?_ (sqc ?_ (sqc ?_ (sqc ?_ (sqc ?_ (sqc ?_ (sqc ?_ (sqc ?_ (sqc ?_ (sqc ?_ (sqc ?_ (sqc ?_ (sqc ?_ (sqc ?_ (sqc ?_ (sqc ?_ (sqc ?_ (sqc ?_ (sqc ?_ (sqc ?_ (sqc ?_ (sqc ?_ (sqc ?_ (sqc ?_ (sqc ?_ trivial)))))))))))))))))))))))))))))))))))))
            · exact zfa rfl trivial _ _ _ _ rfl rfl (fun w hw => faE0 w _ _)
            · exact zld rfl trivial _ _ _ rfl rfl (fun w hw => load_in ((zca hw.bx 0).trans rfl))
            · exact zbo rfl trivial _ _ _ _ _ _ _ rfl rfl rfl (fun w hw => bin_lss _ _ _)
            · exact zmv rfl trivial _ rfl (by kernel_rfl)
            · exact zfa rfl ⟨_, rfl, by kernel_rfl⟩ _ _ _ _ rfl rfl (fun w hw => faE0 w _ _)
            · exact zld rfl ⟨_, rfl, by kernel_rfl⟩ _ _ _ rfl rfl (fun w hw => load_in ((zca hw.bx 0).trans rfl))
            · exact zbo rfl ⟨_, rfl, by kernel_rfl⟩ _ _ _ _ _ _ _ rfl rfl rfl (fun w hw => bin_gtr _ _ _)
            · exact step_pick rfl trivial _ _ _ false rfl (by kernel_rfl) (by kernel_rfl)
            · exact zmv rfl trivial _ rfl (by kernel_rfl)
            · exact zfa rfl ⟨_, rfl, by kernel_rfl⟩ _ _ _ _ rfl rfl (fun w hw => faE1 w _ _)
            · exact zld rfl ⟨_, rfl, by kernel_rfl⟩ _ _ _ rfl rfl (fun w hw => load_in ((zca hw.bx 1).trans rfl))
            · exact zbo rfl ⟨_, rfl, by kernel_rfl⟩ _ _ _ _ _ _ _ rfl rfl rfl (fun w hw => by rw [← h1_0]; exact bin_lss _ _ _)
            · exact step_pick rfl trivial _ _ _ false rfl (by kernel_rfl) (by kernel_rfl)
            · exact zmv rfl trivial _ rfl (by kernel_rfl)
            · exact zfa rfl ⟨_, rfl, by kernel_rfl⟩ _ _ _ _ rfl rfl (fun w hw => faE1 w _ _)
            · exact zld rfl ⟨_, rfl, by kernel_rfl⟩ _ _ _ rfl rfl (fun w hw => load_in ((zca hw.bx 1).trans rfl))
            · exact zmv rfl ⟨_, rfl, by kernel_rfl⟩ _ rfl (by kernel_rfl)
            · exact znc rfl ⟨_, rfl, by kernel_rfl⟩ _ _ _ rfl rfl rfl
            · exact zfa rfl ⟨_, rfl, by kernel_rfl⟩ _ _ _ _ rfl rfl (fun w hw => faD0 w _ _)
            · exact zld rfl ⟨_, rfl, by kernel_rfl⟩ _ _ _ rfl rfl (fun w hw => load_in hw.de.c0)
            · exact zbo rfl ⟨_, rfl, by kernel_rfl⟩ _ _ _ _ _ _ _ rfl rfl rfl (fun w hw => by rw [← h1_1]; exact bin_geq _ _ _)
            · exact step_pick rfl trivial _ _ _ false rfl (by kernel_rfl) (by kernel_rfl)
            · exact zmv rfl trivial _ rfl (by kernel_rfl)
            · exact zfa rfl ⟨_, rfl, by kernel_rfl⟩ _ _ _ _ rfl rfl (fun w hw => faE2 w _ _)
            · exact zld rfl ⟨_, rfl, by kernel_rfl⟩ _ _ _ rfl rfl (fun w hw => load_in ((zca hw.bx 2).trans rfl))
            · exact zbo rfl ⟨_, rfl, by kernel_rfl⟩ _ _ _ _ _ _ _ rfl rfl rfl (fun w hw => by rw [← h1_2]; exact bin_lss _ _ _)
            · exact step_pick rfl trivial _ _ _ false rfl (by kernel_rfl) (by kernel_rfl)
            · exact zmv rfl trivial _ rfl (by kernel_rfl)
            · exact zfa rfl ⟨_, rfl, by kernel_rfl⟩ _ _ _ _ rfl rfl (fun w hw => faE2 w _ _)
            · exact zld rfl ⟨_, rfl, by kernel_rfl⟩ _ _ _ rfl rfl (fun w hw => load_in ((zca hw.bx 2).trans rfl))
            · exact zbo rfl ⟨_, rfl, by kernel_rfl⟩ _ _ _ _ _ _ _ rfl rfl rfl (fun w hw => by rw [← h1_3]; exact bin_gtr _ _ _)
            · exact step_pick rfl trivial _ _ _ false rfl (by kernel_rfl) (by kernel_rfl)
            · exact zmv rfl trivial _ rfl (by kernel_rfl)
            · exact zld rfl ⟨_, rfl, by kernel_rfl⟩ _ _ _ rfl rfl (fun w hw => load_bx hw.bx)
            · exact zsc rfl ⟨_, rfl, by kernel_rfl⟩ 17 _ _ [(evV ⟨3, nd, li, ro, ta, of, du, he, un⟩)] rfl (by kernel_rfl) (enters_of Try.func17 (by kernel_rfl) rfl) (fun w hw => (rbare_any ⟨3, nd, li, ro, ta, of, du, he, un⟩ hhe hun w).mono (by rintro e w' ⟨rfl, hb⟩; exact ⟨congrArg (fun z => Ending.returned (Value.bool z)) h1_4, hw.carry hb⟩))
            · exact step_unOp rfl ⟨_, rfl, by kernel_rfl⟩ _ _ _ _ rfl rfl (fun w hw => rfl)
            · exact step_pick rfl trivial _ _ _ false rfl (by kernel_rfl) (by kernel_rfl)
          intro W hW
          first | refine hK _ _ ?_ | refine (‹∀ (a : Act) (w : World), Code.wp Try.prog _ _ a w → _›) _ _ ?_ | skip
          simp only [finL, List.getD_cons_zero, List.getD_cons_succ, Nat.zero_add, Nat.reduceAdd, List.setIfInBounds_toArray, List.set_cons_zero, List.set_cons_succ]
          obtain ⟨W1, rfl⟩ : ∃ V, V = W := ⟨_, rfl⟩
          have hJ1 := hW
          clear hW
          have HP : dpre n ⟨3, nd, li, ro, ta, of, du, he, un⟩ = false := by unfold dpre; try simp only [h1_0]; try simp only [h1_1]; try simp only [h1_2]; try simp only [h1_3]; try simp only [h1_4]; rfl
          have hnd : 0 ≤ nd ∧ nd < n := by
            have q0 := of_decide_eq_false h1_0
            have q1 := of_decide_eq_false h1_1
            omega
          obtain ⟨m, hmx2⟩ := Int.eq_ofNat_of_zero_le hnd.1
          have HX : Hid (nd = (m : Int)) := hmx2
          have hml : m < 100 := by omega
          obtain ⟨u, hm⟩ : ∃ u, D.ds[m]? = some u := ⟨_, List.getElem?_eq_getElem (by rw [h.ln]; omega)⟩
          clear hmx2 hnd
          go_wp2
          refine wp_region_any hmx ?_
          refine zwp (fun i__ => ([(.pointer (some ⟨y, 0, none⟩)), (.pointer (some ⟨w.heap.size, 1, none⟩)), (.int .i64 nd), (.pointer (some ⟨y, 0, none⟩)), (.pointer (some ⟨y, 2, none⟩)), (.pointer (some ⟨y, 2 + m * 6, none⟩)), (.pointer (some ⟨y, 2 + m * 6, none⟩))] : List Value).getD i__ undef) (fun V => JH w y w.heap.size n f D ⟨3, nd, li, ro, ta, of, du, he, un⟩ V) (by kernel_rfl) (hJ1.carry (Below.refl _ _).drew) ?_ ?_
          · refine (sqc ?_ (sqc ?_ (sqc ?_ (sqc ?_ (sqc ?_ (sqc ?_ (sqc ?_ trivial)))))))
            · exact zmv rfl trivial _ rfl (by kernel_rfl)
            · exact zfa rfl trivial _ _ _ _ rfl rfl (fun w hw => faE1 w _ _)
            · exact zld rfl trivial _ _ _ rfl rfl (fun w hw => load_in ((zca hw.bx 1).trans rfl))
            · exact znc rfl trivial _ _ _ rfl rfl rfl
            · exact zfa rfl trivial _ _ _ _ rfl rfl (fun w hw => faD2 w _ _)
            · exact zia rfl trivial _ _ _ _ _ rfl rfl rfl (fun w hw => by rw [HX.out]; exact idx_d y m hml w)
            · exact zas rfl trivial _ rfl (by kernel_rfl) (fun _ h => h)
          intro W hW
          first | refine hK _ _ ?_ | refine (‹∀ (a : Act) (w : World), Code.wp Try.prog _ _ a w → _›) _ _ ?_ | skip
          simp only [finL, List.getD_cons_zero, List.getD_cons_succ, Nat.zero_add, Nat.reduceAdd, List.setIfInBounds_toArray, List.set_cons_zero, List.set_cons_succ]
          obtain ⟨W3, rfl⟩ : ∃ V, V = W := ⟨_, rfl⟩
          have hJ3 := hW
          clear hW
          go_wp2
          cases h4_0 : D.rb with
          | true =>
            cases h4_1 : (nd != D.c.nd) with
            | true =>
              refine wp_region_any hmx ?_
              refine zwp (fun i__ => ([(.pointer (some ⟨y, 0, none⟩)), (.pointer (some ⟨y, 0, none⟩)), (.pointer (some ⟨y, 602, none⟩)), (.bool true), (.bool true), (.pointer (some ⟨w.heap.size, 1, none⟩)), (.int .i64 nd), (.pointer (some ⟨y, 0, none⟩)), (.pointer (some ⟨y, 0, none⟩)), (.pointer (some ⟨y, 603, none⟩)), (.pointer (some ⟨y, 604, none⟩)), (.int .i64 D.c.nd), (.bool true), (.bool true), undef, undef, undef, undef, undef, undef, undef, undef, (.bool true), (.bool true), (.bool true), undef, undef, undef, undef, undef, undef, undef, undef, undef, undef, (.bool true)] : List Value).getD i__ undef) (fun V => JH w y w.heap.size n f D ⟨3, nd, li, ro, ta, of, du, he, un⟩ V) (by kernel_rfl) (hJ3.carry (Below.refl _ _).drew) ?_ ?_
              · refine (sqc ?_ (sqc ?_ (sqc ?_ (sqc ?_ (sqc ?_ (sqc ?_ (sqc ?_ (sqc ?_ (sqc ?_ (sqc ?_ (sqc ?_ (sqc ?_ (sqc ?_ (sqc ?_ (sqc ?_ (sqc ?_ (sqc ?_ (sqc ?_ (sqc ?_ (sqc ?_ (sqc ?_ (sqc ?_ (sqc ?_ (sqc ?_ (sqc ?_ (sqc ?_ (sqc ?_ (sqc ?_ (sqc ?_ (sqc ?_ (sqc ?_ (sqc ?_ (sqc ?_ (sqc ?_ (sqc ?_ (sqc ?_ trivial))))))))))))))))))))))))))))))))))))
                · exact zmv rfl trivial _ rfl (by kernel_rfl)
                · exact znc rfl trivial _ _ _ rfl rfl rfl
                · exact zfa rfl trivial _ _ _ _ rfl rfl (fun w hw => faD3 w _ _)
                · exact zld rfl trivial _ _ _ rfl rfl (fun w hw => by rw [← h4_0]; exact load_bo hw.de.crb)
                · exact zmv rfl trivial _ rfl (by kernel_rfl)
                · exact zfa rfl ⟨_, rfl, by kernel_rfl⟩ _ _ _ _ rfl rfl (fun w hw => faE1 w _ _)
                · exact zld rfl ⟨_, rfl, by kernel_rfl⟩ _ _ _ rfl rfl (fun w hw => load_in ((zca hw.bx 1).trans rfl))
                · exact zmv rfl ⟨_, rfl, by kernel_rfl⟩ _ rfl (by kernel_rfl)
                · exact znc rfl ⟨_, rfl, by kernel_rfl⟩ _ _ _ rfl rfl rfl
                · exact zfa rfl ⟨_, rfl, by kernel_rfl⟩ _ _ _ _ rfl rfl (fun w hw => faD4 w _ _)
                · exact zfa rfl ⟨_, rfl, by kernel_rfl⟩ _ _ _ _ rfl rfl (fun w hw => faE1 w _ _)
                · exact zld rfl ⟨_, rfl, by kernel_rfl⟩ _ _ _ rfl rfl (fun w hw => load_in (hw.de.cc (j := 1) (by decide) rfl))
                · exact zbo rfl ⟨_, rfl, by kernel_rfl⟩ _ _ _ _ _ _ _ rfl rfl rfl (fun w hw => by rw [← h4_1]; exact bin_neq _ _ _)
                · exact zmv rfl ⟨_, rfl, by kernel_rfl⟩ _ rfl (by kernel_rfl)
                · exact zsk rfl 13 false 62 (.bool true) rfl rfl (by kernel_rfl) (by intro h; cases h) rfl
                · exact zsk rfl 13 false 62 (.bool true) rfl rfl (by kernel_rfl) (by intro h; cases h) rfl
                · exact zsk rfl 13 false 62 (.bool true) rfl rfl (by kernel_rfl) (by intro h; cases h) rfl
                · exact zsk rfl 13 false 62 (.bool true) rfl rfl (by kernel_rfl) (by intro h; cases h) rfl
                · exact zsk rfl 17 true 66 undef rfl rfl (by kernel_rfl) (by intro h; cases h) rfl
                · exact zsk rfl 17 true 66 undef rfl rfl (by kernel_rfl) (by intro h; cases h) rfl
                · exact zsk rfl 17 true 66 undef rfl rfl (by kernel_rfl) (by intro h; cases h) rfl
                · exact zsk rfl 13 false 62 (.bool true) rfl rfl (by kernel_rfl) (by intro h; cases h) rfl
                · exact step_pick rfl ⟨_, rfl, by kernel_rfl⟩ _ _ _ true rfl (by kernel_rfl) (by kernel_rfl)
                · exact step_pick rfl trivial _ _ _ true rfl (by kernel_rfl) (by kernel_rfl)
                · exact zmv rfl trivial _ rfl (by kernel_rfl)
                · exact zsk rfl 24 false 73 (.bool true) rfl rfl (by kernel_rfl) (by intro h; cases h) rfl
                · exact zsk rfl 24 false 73 (.bool true) rfl rfl (by kernel_rfl) (by intro h; cases h) rfl
                · exact zsk rfl 24 false 73 (.bool true) rfl rfl (by kernel_rfl) (by intro h; cases h) rfl
                · exact zsk rfl 24 false 73 (.bool true) rfl rfl (by kernel_rfl) (by intro h; cases h) rfl
                · exact zsk rfl 24 false 73 (.bool true) rfl rfl (by kernel_rfl) (by intro h; cases h) rfl
                · exact zsk rfl 24 false 73 (.bool true) rfl rfl (by kernel_rfl) (by intro h; cases h) rfl
                · exact zsk rfl 30 true 79 undef rfl rfl (by kernel_rfl) (by intro h; cases h) rfl
                · exact zsk rfl 30 true 79 undef rfl rfl (by kernel_rfl) (by intro h; cases h) rfl
                · exact zsk rfl 30 true 79 undef rfl rfl (by kernel_rfl) (by intro h; cases h) rfl
                · exact zsk rfl 24 false 73 (.bool true) rfl rfl (by kernel_rfl) (by intro h; cases h) rfl
                · exact step_pick rfl trivial _ _ _ true rfl (by kernel_rfl) (by kernel_rfl)
              intro W hW
              first | refine hK _ _ ?_ | refine (‹∀ (a : Act) (w : World), Code.wp Try.prog _ _ a w → _›) _ _ ?_ | skip
              simp only [finL, List.getD_cons_zero, List.getD_cons_succ, Nat.zero_add, Nat.reduceAdd, List.setIfInBounds_toArray, List.set_cons_zero, List.set_cons_succ]
              go_wp2
              go_ret
              exact ho_no (by unfold hold; rw [HP]; unfold rwbad; try simp only [h4_0]; try simp only [h4_1]; rfl) hW.tn
            | false =>
              refine wp_region_any hmx ?_
              refine zwp (fun i__ => ([(.pointer (some ⟨y, 0, none⟩)), (.pointer (some ⟨y, 0, none⟩)), (.pointer (some ⟨y, 602, none⟩)), (.bool true), (.bool true), (.pointer (some ⟨w.heap.size, 1, none⟩)), (.int .i64 nd), (.pointer (some ⟨y, 0, none⟩)), (.pointer (some ⟨y, 0, none⟩)), (.pointer (some ⟨y, 603, none⟩)), (.pointer (some ⟨y, 604, none⟩)), (.int .i64 D.c.nd), (.bool false), (.bool false), (.pointer (some ⟨w.heap.size, 0, none⟩)), (.int .i64 3), (.bool true), (.bool true), (.pointer (some ⟨w.heap.size, 0, none⟩)), (.int .i64 3), (.bool true), (.bool true), (.bool true), (.bool true), (.bool true), undef, undef, undef, undef, undef, undef, undef, undef, undef, undef, (.bool true)] : List Value).getD i__ undef) (fun V => JH w y w.heap.size n f D ⟨3, nd, li, ro, ta, of, du, he, un⟩ V) (by kernel_rfl) (hJ3.carry (Below.refl _ _).drew) ?_ ?_
              · refine (sqc ?_ (sqc ?_ (sqc ?_ (sqc ?_ (sqc ?_ (sqc ?_ (sqc ?_ (sqc ?_ (sqc ?_ (sqc ?_ (sqc ?_ (sqc ?_ (sqc ?_ (sqc ?_ (sqc ?_ (sqc ?_ (sqc ?_ (sqc ?_ (sqc ?_ (sqc ?_ (sqc ?_ (sqc ?_ (sqc ?_ (sqc ?_ (sqc ?_ (sqc ?_ (sqc ?_ (sqc ?_ (sqc ?_ (sqc ?_ (sqc ?_ (sqc ?_ (sqc ?_ (sqc ?_ (sqc ?_ (sqc ?_ trivial))))))))))))))))))))))))))))))))))))
                · exact zmv rfl trivial _ rfl (by kernel_rfl)
                · exact znc rfl trivial _ _ _ rfl rfl rfl
                · exact zfa rfl trivial _ _ _ _ rfl rfl (fun w hw => faD3 w _ _)
                · exact zld rfl trivial _ _ _ rfl rfl (fun w hw => by rw [← h4_0]; exact load_bo hw.de.crb)
                · exact zmv rfl trivial _ rfl (by kernel_rfl)
                · exact zfa rfl ⟨_, rfl, by kernel_rfl⟩ _ _ _ _ rfl rfl (fun w hw => faE1 w _ _)
                · exact zld rfl ⟨_, rfl, by kernel_rfl⟩ _ _ _ rfl rfl (fun w hw => load_in ((zca hw.bx 1).trans rfl))
                · exact zmv rfl ⟨_, rfl, by kernel_rfl⟩ _ rfl (by kernel_rfl)
                · exact znc rfl ⟨_, rfl, by kernel_rfl⟩ _ _ _ rfl rfl rfl
                · exact zfa rfl ⟨_, rfl, by kernel_rfl⟩ _ _ _ _ rfl rfl (fun w hw => faD4 w _ _)
                · exact zfa rfl ⟨_, rfl, by kernel_rfl⟩ _ _ _ _ rfl rfl (fun w hw => faE1 w _ _)
                · exact zld rfl ⟨_, rfl, by kernel_rfl⟩ _ _ _ rfl rfl (fun w hw => load_in (hw.de.cc (j := 1) (by decide) rfl))
                · exact zbo rfl ⟨_, rfl, by kernel_rfl⟩ _ _ _ _ _ _ _ rfl rfl rfl (fun w hw => by rw [← h4_1]; exact bin_neq _ _ _)
                · exact zmv rfl ⟨_, rfl, by kernel_rfl⟩ _ rfl (by kernel_rfl)
                · exact zfa rfl ⟨_, rfl, by kernel_rfl⟩ _ _ _ _ rfl rfl (fun w hw => faE0 w _ _)
                · exact zld rfl ⟨_, rfl, by kernel_rfl⟩ _ _ _ rfl rfl (fun w hw => load_in ((zca hw.bx 0).trans rfl))
                · exact zbo rfl ⟨_, rfl, by kernel_rfl⟩ _ _ _ _ _ _ _ rfl rfl rfl (fun w hw => bin_neq _ _ _)
                · exact zmv rfl ⟨_, rfl, by kernel_rfl⟩ _ rfl (by kernel_rfl)
                · exact zfa rfl ⟨_, rfl, by kernel_rfl⟩ _ _ _ _ rfl rfl (fun w hw => faE0 w _ _)
                · exact zld rfl ⟨_, rfl, by kernel_rfl⟩ _ _ _ rfl rfl (fun w hw => load_in ((zca hw.bx 0).trans rfl))
                · exact zbo rfl ⟨_, rfl, by kernel_rfl⟩ _ _ _ _ _ _ _ rfl rfl rfl (fun w hw => bin_neq _ _ _)
                · exact step_pick rfl ⟨_, rfl, by kernel_rfl⟩ _ _ _ true rfl (by kernel_rfl) (by kernel_rfl)
                · exact step_pick rfl ⟨_, rfl, by kernel_rfl⟩ _ _ _ false rfl (by kernel_rfl) (by kernel_rfl)
                · exact step_pick rfl trivial _ _ _ true rfl (by kernel_rfl) (by kernel_rfl)
                · exact zmv rfl trivial _ rfl (by kernel_rfl)
                · exact zsk rfl 24 false 73 (.bool true) rfl rfl (by kernel_rfl) (by intro h; cases h) rfl
                · exact zsk rfl 24 false 73 (.bool true) rfl rfl (by kernel_rfl) (by intro h; cases h) rfl
                · exact zsk rfl 24 false 73 (.bool true) rfl rfl (by kernel_rfl) (by intro h; cases h) rfl
                · exact zsk rfl 24 false 73 (.bool true) rfl rfl (by kernel_rfl) (by intro h; cases h) rfl
                · exact zsk rfl 24 false 73 (.bool true) rfl rfl (by kernel_rfl) (by intro h; cases h) rfl
                · exact zsk rfl 24 false 73 (.bool true) rfl rfl (by kernel_rfl) (by intro h; cases h) rfl
                · exact zsk rfl 30 true 79 undef rfl rfl (by kernel_rfl) (by intro h; cases h) rfl
                · exact zsk rfl 30 true 79 undef rfl rfl (by kernel_rfl) (by intro h; cases h) rfl
                · exact zsk rfl 30 true 79 undef rfl rfl (by kernel_rfl) (by intro h; cases h) rfl
                · exact zsk rfl 24 false 73 (.bool true) rfl rfl (by kernel_rfl) (by intro h; cases h) rfl
                · exact step_pick rfl trivial _ _ _ true rfl (by kernel_rfl) (by kernel_rfl)
              intro W hW
              first | refine hK _ _ ?_ | refine (‹∀ (a : Act) (w : World), Code.wp Try.prog _ _ a w → _›) _ _ ?_ | skip
              simp only [finL, List.getD_cons_zero, List.getD_cons_succ, Nat.zero_add, Nat.reduceAdd, List.setIfInBounds_toArray, List.set_cons_zero, List.set_cons_succ]
              go_wp2
              go_ret
              exact ho_no (by unfold hold; rw [HP]; unfold rwbad; try simp only [h4_0]; try simp only [h4_1]; rfl) hW.tn
          | false =>
            refine wp_region_any hmx ?_
            refine zwp (fun i__ => ([(.pointer (some ⟨y, 0, none⟩)), (.pointer (some ⟨y, 0, none⟩)), (.pointer (some ⟨y, 602, none⟩)), (.bool false), (.bool false), undef, undef, undef, undef, undef, undef, undef, undef, undef, undef, undef, undef, undef, undef, undef, undef, undef, undef, (.bool false), (.bool false), (.pointer (some ⟨y, 0, none⟩)), (.pointer (some ⟨y, 0, none⟩)), (.pointer (some ⟨y, 602, none⟩)), (.bool false), (.bool true), (.bool true), (.pointer (some ⟨w.heap.size, 0, none⟩)), (.int .i64 3), (.bool false), (.bool false), (.bool false)] : List Value).getD i__ undef) (fun V => JH w y w.heap.size n f D ⟨3, nd, li, ro, ta, of, du, he, un⟩ V) (by kernel_rfl) (hJ3.carry (Below.refl _ _).drew) ?_ ?_
            · refine (sqc ?_ (sqc ?_ (sqc ?_ (sqc ?_ (sqc ?_ (sqc ?_ (sqc ?_ (sqc ?_ (sqc ?_ (sqc ?_ (sqc ?_ (sqc ?_ (sqc ?_ (sqc ?_ (sqc ?_ (sqc ?_ (sqc ?_ (sqc ?_ (sqc ?_ (sqc ?_ (sqc ?_ (sqc ?_ (sqc ?_ (sqc ?_ (sqc ?_ (sqc ?_ (sqc ?_ (sqc ?_ (sqc ?_ (sqc ?_ (sqc ?_ (sqc ?_ (sqc ?_ (sqc ?_ (sqc ?_ (sqc ?_ trivial))))))))))))))))))))))))))))))))))))
              · exact zmv rfl trivial _ rfl (by kernel_rfl)
              · exact znc rfl trivial _ _ _ rfl rfl rfl
              · exact zfa rfl trivial _ _ _ _ rfl rfl (fun w hw => faD3 w _ _)
              · exact zld rfl trivial _ _ _ rfl rfl (fun w hw => by rw [← h4_0]; exact load_bo hw.de.crb)
              · exact zmv rfl trivial _ rfl (by kernel_rfl)
              · exact zsk rfl 4 true 53 (.bool false) rfl rfl (by kernel_rfl) (by intro h; cases h) rfl
              · exact zsk rfl 4 true 53 (.bool false) rfl rfl (by kernel_rfl) (by intro h; cases h) rfl
              · exact zsk rfl 4 true 53 (.bool false) rfl rfl (by kernel_rfl) (by intro h; cases h) rfl
              · exact zsk rfl 4 true 53 (.bool false) rfl rfl (by kernel_rfl) (by intro h; cases h) rfl
              · exact zsk rfl 4 true 53 (.bool false) rfl rfl (by kernel_rfl) (by intro h; cases h) rfl
              · exact zsk rfl 4 true 53 (.bool false) rfl rfl (by kernel_rfl) (by intro h; cases h) rfl
              · exact zsk rfl 4 true 53 (.bool false) rfl rfl (by kernel_rfl) (by intro h; cases h) rfl
              · exact zsk rfl 4 true 53 (.bool false) rfl rfl (by kernel_rfl) (by intro h; cases h) rfl
              · exact zsk rfl 4 true 53 (.bool false) rfl rfl (by kernel_rfl) (by intro h; cases h) rfl
              · exact zsk rfl 13 false 62 undef rfl rfl (by kernel_rfl) (by intro h; cases h) rfl
              · exact zsk rfl 13 false 62 undef rfl rfl (by kernel_rfl) (by intro h; cases h) rfl
              · exact zsk rfl 13 false 62 undef rfl rfl (by kernel_rfl) (by intro h; cases h) rfl
              · exact zsk rfl 13 false 62 undef rfl rfl (by kernel_rfl) (by intro h; cases h) rfl
              · exact zsk rfl 17 true 66 undef rfl rfl (by kernel_rfl) (by intro h; cases h) rfl
              · exact zsk rfl 17 true 66 undef rfl rfl (by kernel_rfl) (by intro h; cases h) rfl
              · exact zsk rfl 17 true 66 undef rfl rfl (by kernel_rfl) (by intro h; cases h) rfl
              · exact zsk rfl 13 false 62 undef rfl rfl (by kernel_rfl) (by intro h; cases h) rfl
              · exact zsk rfl 4 true 53 (.bool false) rfl rfl (by kernel_rfl) (by intro h; cases h) rfl
              · exact step_pick rfl trivial _ _ _ false rfl (by kernel_rfl) (by kernel_rfl)
              · exact zmv rfl trivial _ rfl (by kernel_rfl)
              · exact zmv rfl ⟨_, rfl, by kernel_rfl⟩ _ rfl (by kernel_rfl)
              · exact znc rfl ⟨_, rfl, by kernel_rfl⟩ _ _ _ rfl rfl rfl
              · exact zfa rfl ⟨_, rfl, by kernel_rfl⟩ _ _ _ _ rfl rfl (fun w hw => faD3 w _ _)
              · exact zld rfl ⟨_, rfl, by kernel_rfl⟩ _ _ _ rfl rfl (fun w hw => by rw [← h4_0]; exact load_bo hw.de.crb)
              · exact step_unOp rfl ⟨_, rfl, by kernel_rfl⟩ _ _ _ _ rfl rfl (fun w hw => rfl)
              · exact zmv rfl ⟨_, rfl, by kernel_rfl⟩ _ rfl (by kernel_rfl)
              · exact zfa rfl ⟨_, rfl, by kernel_rfl⟩ _ _ _ _ rfl rfl (fun w hw => faE0 w _ _)
              · exact zld rfl ⟨_, rfl, by kernel_rfl⟩ _ _ _ rfl rfl (fun w hw => load_in ((zca hw.bx 0).trans rfl))
              · exact zbo rfl ⟨_, rfl, by kernel_rfl⟩ _ _ _ _ _ _ _ rfl rfl rfl (fun w hw => bin_eql _ _ _)
              · exact step_pick rfl ⟨_, rfl, by kernel_rfl⟩ _ _ _ true rfl (by kernel_rfl) (by kernel_rfl)
              · exact step_pick rfl trivial _ _ _ false rfl (by kernel_rfl) (by kernel_rfl)
            intro W hW
            first | refine hK _ _ ?_ | refine (‹∀ (a : Act) (w : World), Code.wp Try.prog _ _ a w → _›) _ _ ?_ | skip
            simp only [finL, List.getD_cons_zero, List.getD_cons_succ, Nat.zero_add, Nat.reduceAdd, List.setIfInBounds_toArray, List.set_cons_zero, List.set_cons_succ]
            obtain ⟨W4, rfl⟩ : ∃ V, V = W := ⟨_, rfl⟩
            have hJ4 := hW
            clear hW
            have HR : rwbad D ⟨3, nd, li, ro, ta, of, du, he, un⟩ = false := by unfold rwbad; try simp only [h4_0]; rfl
            have HO := hold_at (f := f) HP HR hm HX.out
            go_wp2
            cases h6_0 : u.up with
            | true =>
              cases h6_1 : (li != u.life) with
              | true =>
                refine wp_region_any hmx ?_
                refine zwp (fun i__ => ([(.pointer (some ⟨w.heap.size, 0, none⟩)), (.int .i64 3), (.bool true), (.bool true), (.pointer (some ⟨y, 2 + m * 6, none⟩)), (.pointer (some ⟨y, 2 + m * 6, none⟩)), (.pointer (some ⟨y, 2 + m * 6, none⟩)), (.bool true), (.bool false), (.bool false), (.pointer (some ⟨w.heap.size, 2, none⟩)), (.int .i64 li), (.pointer (some ⟨y, 2 + m * 6, none⟩)), (.pointer (some ⟨y, 2 + m * 6, none⟩)), (.pointer (some ⟨y, 2 + m * 6 + 1, none⟩)), (.int .i64 u.life), (.bool true), (.bool true), (.bool true)] : List Value).getD i__ undef) (fun V => JH w y w.heap.size n f D ⟨3, nd, li, ro, ta, of, du, he, un⟩ V) (by kernel_rfl) (hJ4.carry (Below.refl _ _).drew) ?_ ?_
                · refine (sqc ?_ (sqc ?_ (sqc ?_ (sqc ?_ (sqc ?_ (sqc ?_ (sqc ?_ (sqc ?_ (sqc ?_ (sqc ?_ (sqc ?_ (sqc ?_ (sqc ?_ (sqc ?_ (sqc ?_ (sqc ?_ (sqc ?_ (sqc ?_ (sqc ?_ trivial)))))))))))))))))))
                  · exact zfa rfl trivial _ _ _ _ rfl rfl (fun w hw => faE0 w _ _)
                  · exact zld rfl trivial _ _ _ rfl rfl (fun w hw => load_in ((zca hw.bx 0).trans rfl))
                  · exact zbo rfl trivial _ _ _ _ _ _ _ rfl rfl rfl (fun w hw => bin_neq _ _ _)
                  · exact zmv rfl trivial _ rfl (by kernel_rfl)
                  · exact zmv rfl ⟨_, rfl, by kernel_rfl⟩ _ rfl (by kernel_rfl)
                  · exact znc rfl ⟨_, rfl, by kernel_rfl⟩ _ _ _ rfl rfl rfl
                  · exact zfa rfl ⟨_, rfl, by kernel_rfl⟩ _ _ _ _ rfl rfl (fun w hw => faM0 w _ _)
                  · exact zld rfl ⟨_, rfl, by kernel_rfl⟩ _ _ _ rfl rfl (fun w hw => by rw [← h6_0]; exact load_bo (hw.de.cn hm (j := 0) (by decide) rfl))
                  · exact step_unOp rfl ⟨_, rfl, by kernel_rfl⟩ _ _ _ _ rfl rfl (fun w hw => rfl)
                  · exact zmv rfl ⟨_, rfl, by kernel_rfl⟩ _ rfl (by kernel_rfl)
                  · exact zfa rfl ⟨_, rfl, by kernel_rfl⟩ _ _ _ _ rfl rfl (fun w hw => faE2 w _ _)
                  · exact zld rfl ⟨_, rfl, by kernel_rfl⟩ _ _ _ rfl rfl (fun w hw => load_in ((zca hw.bx 2).trans rfl))
                  · exact zmv rfl ⟨_, rfl, by kernel_rfl⟩ _ rfl (by kernel_rfl)
                  · exact znc rfl ⟨_, rfl, by kernel_rfl⟩ _ _ _ rfl rfl rfl
                  · exact zfa rfl ⟨_, rfl, by kernel_rfl⟩ _ _ _ _ rfl rfl (fun w hw => faM1 w _ _)
                  · exact zld rfl ⟨_, rfl, by kernel_rfl⟩ _ _ _ rfl rfl (fun w hw => load_in (hw.de.cn hm (j := 1) (by decide) rfl))
                  · exact zbo rfl ⟨_, rfl, by kernel_rfl⟩ _ _ _ _ _ _ _ rfl rfl rfl (fun w hw => by rw [← h6_1]; exact bin_neq _ _ _)
                  · exact step_pick rfl ⟨_, rfl, by kernel_rfl⟩ _ _ _ false rfl (by kernel_rfl) (by kernel_rfl)
                  · exact step_pick rfl trivial _ _ _ true rfl (by kernel_rfl) (by kernel_rfl)
                intro W hW
                first | refine hK _ _ ?_ | refine (‹∀ (a : Act) (w : World), Code.wp Try.prog _ _ a w → _›) _ _ ?_ | skip
                simp only [finL, List.getD_cons_zero, List.getD_cons_succ, Nat.zero_add, Nat.reduceAdd, List.setIfInBounds_toArray, List.set_cons_zero, List.set_cons_succ]
                go_wp2
                go_ret
                exact ho_no (by rw [HO]; unfold upbad; try simp only [h6_0]; try simp only [h6_1]; rfl) hW.tn
              | false =>
                refine wp_region_any hmx ?_
                refine zwp (fun i__ => ([(.pointer (some ⟨w.heap.size, 0, none⟩)), (.int .i64 3), (.bool true), (.bool true), (.pointer (some ⟨y, 2 + m * 6, none⟩)), (.pointer (some ⟨y, 2 + m * 6, none⟩)), (.pointer (some ⟨y, 2 + m * 6, none⟩)), (.bool true), (.bool false), (.bool false), (.pointer (some ⟨w.heap.size, 2, none⟩)), (.int .i64 li), (.pointer (some ⟨y, 2 + m * 6, none⟩)), (.pointer (some ⟨y, 2 + m * 6, none⟩)), (.pointer (some ⟨y, 2 + m * 6 + 1, none⟩)), (.int .i64 u.life), (.bool false), (.bool false), (.bool false)] : List Value).getD i__ undef) (fun V => JH w y w.heap.size n f D ⟨3, nd, li, ro, ta, of, du, he, un⟩ V) (by kernel_rfl) (hJ4.carry (Below.refl _ _).drew) ?_ ?_
                · refine (sqc ?_ (sqc ?_ (sqc ?_ (sqc ?_ (sqc ?_ (sqc ?_ (sqc ?_ (sqc ?_ (sqc ?_ (sqc ?_ (sqc ?_ (sqc ?_ (sqc ?_ (sqc ?_ (sqc ?_ (sqc ?_ (sqc ?_ (sqc ?_ (sqc ?_ trivial)))))))))))))))))))
                  · exact zfa rfl trivial _ _ _ _ rfl rfl (fun w hw => faE0 w _ _)
                  · exact zld rfl trivial _ _ _ rfl rfl (fun w hw => load_in ((zca hw.bx 0).trans rfl))
                  · exact zbo rfl trivial _ _ _ _ _ _ _ rfl rfl rfl (fun w hw => bin_neq _ _ _)
                  · exact zmv rfl trivial _ rfl (by kernel_rfl)
                  · exact zmv rfl ⟨_, rfl, by kernel_rfl⟩ _ rfl (by kernel_rfl)
                  · exact znc rfl ⟨_, rfl, by kernel_rfl⟩ _ _ _ rfl rfl rfl
                  · exact zfa rfl ⟨_, rfl, by kernel_rfl⟩ _ _ _ _ rfl rfl (fun w hw => faM0 w _ _)
                  · exact zld rfl ⟨_, rfl, by kernel_rfl⟩ _ _ _ rfl rfl (fun w hw => by rw [← h6_0]; exact load_bo (hw.de.cn hm (j := 0) (by decide) rfl))
                  · exact step_unOp rfl ⟨_, rfl, by kernel_rfl⟩ _ _ _ _ rfl rfl (fun w hw => rfl)
                  · exact zmv rfl ⟨_, rfl, by kernel_rfl⟩ _ rfl (by kernel_rfl)
                  · exact zfa rfl ⟨_, rfl, by kernel_rfl⟩ _ _ _ _ rfl rfl (fun w hw => faE2 w _ _)
                  · exact zld rfl ⟨_, rfl, by kernel_rfl⟩ _ _ _ rfl rfl (fun w hw => load_in ((zca hw.bx 2).trans rfl))
                  · exact zmv rfl ⟨_, rfl, by kernel_rfl⟩ _ rfl (by kernel_rfl)
                  · exact znc rfl ⟨_, rfl, by kernel_rfl⟩ _ _ _ rfl rfl rfl
                  · exact zfa rfl ⟨_, rfl, by kernel_rfl⟩ _ _ _ _ rfl rfl (fun w hw => faM1 w _ _)
                  · exact zld rfl ⟨_, rfl, by kernel_rfl⟩ _ _ _ rfl rfl (fun w hw => load_in (hw.de.cn hm (j := 1) (by decide) rfl))
                  · exact zbo rfl ⟨_, rfl, by kernel_rfl⟩ _ _ _ _ _ _ _ rfl rfl rfl (fun w hw => by rw [← h6_1]; exact bin_neq _ _ _)
                  · exact step_pick rfl ⟨_, rfl, by kernel_rfl⟩ _ _ _ false rfl (by kernel_rfl) (by kernel_rfl)
                  · exact step_pick rfl trivial _ _ _ true rfl (by kernel_rfl) (by kernel_rfl)
                intro W hW
                first | refine hK _ _ ?_ | refine (‹∀ (a : Act) (w : World), Code.wp Try.prog _ _ a w → _›) _ _ ?_ | skip
                simp only [finL, List.getD_cons_zero, List.getD_cons_succ, Nat.zero_add, Nat.reduceAdd, List.setIfInBounds_toArray, List.set_cons_zero, List.set_cons_succ]
                obtain ⟨W6, rfl⟩ : ∃ V, V = W := ⟨_, rfl⟩
                have hJ6 := hW
                clear hW
                have ck : W6.cell? ⟨w.heap.size, 0, none⟩ = some (.int .i64 3) := (zca hJ6.bx 0).trans rfl
                have HO2 : hold n f D ⟨3, nd, li, ro, ta, of, du, he, un⟩ = dlw n f D ⟨3, nd, li, ro, ta, of, du, he, un⟩ m u := by rw [HO]; unfold upbad; try simp only [h6_0]; try simp only [h6_1]; rfl
                go_wp2
                cases h21_0 : (ro != u.op) with
                | true =>
                  refine wp_region_any hmx ?_
                  refine zwp (fun i__ => ([(.pointer (some ⟨w.heap.size, 3, none⟩)), (.int .i64 ro), (.pointer (some ⟨y, 2 + m * 6, none⟩)), (.pointer (some ⟨y, 2 + m * 6, none⟩)), (.pointer (some ⟨y, 2 + m * 6 + 3, none⟩)), (.int .i64 u.op), (.bool true), (.bool true), undef, undef, undef, undef, undef, undef, undef, undef, (.bool true), (.bool true), undef, undef, undef, undef, undef, undef, undef, undef, undef, undef, undef, undef, undef, (.bool true), (.bool true), undef, undef, undef, undef, undef, undef, (.bool true), (.bool true), undef, undef, undef, undef, undef, undef, undef, undef, (.bool true), (.bool true), undef, undef, undef, undef, undef, undef, (.bool true)] : List Value).getD i__ undef) (fun V => JH w y w.heap.size n f D ⟨3, nd, li, ro, ta, of, du, he, un⟩ V) (by kernel_rfl) (hJ6.carry (Below.refl _ _).drew) ?_ ?_
                  · refine (sqc ?_ (sqc ?_ (sqc ?_ (sqc ?_ (sqc ?_ (sqc ?_ (sqc ?_ (sqc ?_ (sqc ?_ (sqc ?_ (sqc ?_ (sqc ?_ (sqc ?_ (sqc ?_ (sqc ?_ (sqc ?_ (sqc ?_ (sqc ?_ (sqc ?_ (sqc ?_ (sqc ?_ (sqc ?_ (sqc ?_ (sqc ?_ (sqc ?_ (sqc ?_ (sqc ?_ (sqc ?_ (sqc ?_ (sqc ?_ (sqc ?_ (sqc ?_ (sqc ?_ (sqc ?_ (sqc ?_ (sqc ?_ (sqc ?_ (sqc ?_ (sqc ?_ (sqc ?_ (sqc ?_ (sqc ?_ (sqc ?_ (sqc ?_ (sqc ?_ (sqc ?_ (sqc ?_ (sqc ?_ (sqc ?_ (sqc ?_ (sqc ?_ (sqc ?_ (sqc ?_ (sqc ?_ (sqc ?_ (sqc ?_ (sqc ?_ (sqc ?_ trivial))))))))))))))))))))))))))))))))))))))))))))))))))))))))))
                    · exact zfa rfl trivial _ _ _ _ rfl rfl (fun w hw => faE3 w _ _)
                    · exact zld rfl trivial _ _ _ rfl rfl (fun w hw => load_in ((zca hw.bx 3).trans rfl))
                    · exact zmv rfl trivial _ rfl (by kernel_rfl)
                    · exact znc rfl trivial _ _ _ rfl rfl rfl
                    · exact zfa rfl trivial _ _ _ _ rfl rfl (fun w hw => faM3 w _ _)
                    · exact zld rfl trivial _ _ _ rfl rfl (fun w hw => load_in (hw.de.cn hm (j := 3) (by decide) rfl))
                    · exact zbo rfl trivial _ _ _ _ _ _ _ rfl rfl rfl (fun w hw => by rw [← h21_0]; exact bin_neq _ _ _)
                    · exact zmv rfl trivial _ rfl (by kernel_rfl)
                    · exact zsk rfl 7 false 243 (.bool true) rfl rfl (by kernel_rfl) (by intro h; cases h) rfl
                    · exact zsk rfl 7 false 243 (.bool true) rfl rfl (by kernel_rfl) (by intro h; cases h) rfl
                    · exact zsk rfl 7 false 243 (.bool true) rfl rfl (by kernel_rfl) (by intro h; cases h) rfl
                    · exact zsk rfl 7 false 243 (.bool true) rfl rfl (by kernel_rfl) (by intro h; cases h) rfl
                    · exact zsk rfl 7 false 243 (.bool true) rfl rfl (by kernel_rfl) (by intro h; cases h) rfl
                    · exact zsk rfl 7 false 243 (.bool true) rfl rfl (by kernel_rfl) (by intro h; cases h) rfl
                    · exact zsk rfl 7 false 243 (.bool true) rfl rfl (by kernel_rfl) (by intro h; cases h) rfl
                    · exact zsk rfl 7 false 243 (.bool true) rfl rfl (by kernel_rfl) (by intro h; cases h) rfl
                    · exact step_pick rfl trivial _ _ _ true rfl (by kernel_rfl) (by kernel_rfl)
                    · exact zmv rfl trivial _ rfl (by kernel_rfl)
                    · exact zsk rfl 17 false 253 (.bool true) rfl rfl (by kernel_rfl) (by intro h; cases h) rfl
                    · exact zsk rfl 17 false 253 (.bool true) rfl rfl (by kernel_rfl) (by intro h; cases h) rfl
                    · exact zsk rfl 17 false 253 (.bool true) rfl rfl (by kernel_rfl) (by intro h; cases h) rfl
                    · exact zsk rfl 17 false 253 (.bool true) rfl rfl (by kernel_rfl) (by intro h; cases h) rfl
                    · exact zsk rfl 17 false 253 (.bool true) rfl rfl (by kernel_rfl) (by intro h; cases h) rfl
                    · exact zsk rfl 17 false 253 (.bool true) rfl rfl (by kernel_rfl) (by intro h; cases h) rfl
                    · exact zsk rfl 17 false 253 (.bool true) rfl rfl (by kernel_rfl) (by intro h; cases h) rfl
                    · exact zsk rfl 17 false 253 (.bool true) rfl rfl (by kernel_rfl) (by intro h; cases h) rfl
                    · exact zsk rfl 17 false 253 (.bool true) rfl rfl (by kernel_rfl) (by intro h; cases h) rfl
                    · exact zsk rfl 17 false 253 (.bool true) rfl rfl (by kernel_rfl) (by intro h; cases h) rfl
                    · exact zsk rfl 17 false 253 (.bool true) rfl rfl (by kernel_rfl) (by intro h; cases h) rfl
                    · exact zsk rfl 17 false 253 (.bool true) rfl rfl (by kernel_rfl) (by intro h; cases h) rfl
                    · exact zsk rfl 17 false 253 (.bool true) rfl rfl (by kernel_rfl) (by intro h; cases h) rfl
                    · exact step_pick rfl trivial _ _ _ true rfl (by kernel_rfl) (by kernel_rfl)
                    · exact zmv rfl trivial _ rfl (by kernel_rfl)
                    · exact zsk rfl 32 false 268 (.bool true) rfl rfl (by kernel_rfl) (by intro h; cases h) rfl
                    · exact zsk rfl 32 false 268 (.bool true) rfl rfl (by kernel_rfl) (by intro h; cases h) rfl
                    · exact zsk rfl 32 false 268 (.bool true) rfl rfl (by kernel_rfl) (by intro h; cases h) rfl
                    · exact zsk rfl 32 false 268 (.bool true) rfl rfl (by kernel_rfl) (by intro h; cases h) rfl
                    · exact zsk rfl 32 false 268 (.bool true) rfl rfl (by kernel_rfl) (by intro h; cases h) rfl
                    · exact zsk rfl 32 false 268 (.bool true) rfl rfl (by kernel_rfl) (by intro h; cases h) rfl
                    · exact step_pick rfl trivial _ _ _ true rfl (by kernel_rfl) (by kernel_rfl)
                    · exact zmv rfl trivial _ rfl (by kernel_rfl)
                    · exact zsk rfl 40 false 276 (.bool true) rfl rfl (by kernel_rfl) (by intro h; cases h) rfl
                    · exact zsk rfl 40 false 276 (.bool true) rfl rfl (by kernel_rfl) (by intro h; cases h) rfl
                    · exact zsk rfl 40 false 276 (.bool true) rfl rfl (by kernel_rfl) (by intro h; cases h) rfl
                    · exact zsk rfl 40 false 276 (.bool true) rfl rfl (by kernel_rfl) (by intro h; cases h) rfl
                    · exact zsk rfl 40 false 276 (.bool true) rfl rfl (by kernel_rfl) (by intro h; cases h) rfl
                    · exact zsk rfl 40 false 276 (.bool true) rfl rfl (by kernel_rfl) (by intro h; cases h) rfl
                    · exact zsk rfl 40 false 276 (.bool true) rfl rfl (by kernel_rfl) (by intro h; cases h) rfl
                    · exact zsk rfl 40 false 276 (.bool true) rfl rfl (by kernel_rfl) (by intro h; cases h) rfl
                    · exact step_pick rfl trivial _ _ _ true rfl (by kernel_rfl) (by kernel_rfl)
                    · exact zmv rfl trivial _ rfl (by kernel_rfl)
                    · exact zsk rfl 50 false 286 (.bool true) rfl rfl (by kernel_rfl) (by intro h; cases h) rfl
                    · exact zsk rfl 50 false 286 (.bool true) rfl rfl (by kernel_rfl) (by intro h; cases h) rfl
                    · exact zsk rfl 50 false 286 (.bool true) rfl rfl (by kernel_rfl) (by intro h; cases h) rfl
                    · exact zsk rfl 50 false 286 (.bool true) rfl rfl (by kernel_rfl) (by intro h; cases h) rfl
                    · exact zsk rfl 50 false 286 (.bool true) rfl rfl (by kernel_rfl) (by intro h; cases h) rfl
                    · exact zsk rfl 50 false 286 (.bool true) rfl rfl (by kernel_rfl) (by intro h; cases h) rfl
                    · exact step_pick rfl trivial _ _ _ true rfl (by kernel_rfl) (by kernel_rfl)
                  intro W hW
                  first | refine hK _ _ ?_ | refine (‹∀ (a : Act) (w : World), Code.wp Try.prog _ _ a w → _›) _ _ ?_ | skip
                  simp only [finL, List.getD_cons_zero, List.getD_cons_succ, Nat.zero_add, Nat.reduceAdd, List.setIfInBounds_toArray, List.set_cons_zero, List.set_cons_succ]
                  go_wp2
                  go_ret
                  exact ho_no (by rw [HO2]; unfold dlw dl3; try simp only [h4_0]; try simp only [h21_0]; rfl) hW.tn
                | false =>
                  cases h21_1 : wthB he n with
                  | true =>
                    cases h21_2 : ((((idsTo he 100).length : Nat) : Int) != (n - f)) with
                    | true =>
                      refine wp_region_any hmx ?_
                      refine zwp (fun i__ => ([(.pointer (some ⟨w.heap.size, 3, none⟩)), (.int .i64 ro), (.pointer (some ⟨y, 2 + m * 6, none⟩)), (.pointer (some ⟨y, 2 + m * 6, none⟩)), (.pointer (some ⟨y, 2 + m * 6 + 3, none⟩)), (.int .i64 u.op), (.bool false), (.bool false), (.pointer (some ⟨w.heap.size, 7, none⟩)), (sv he), (.pointer (some ⟨y, 0, none⟩)), (.pointer (some ⟨y, 0, none⟩)), (.pointer (some ⟨y, 0, none⟩)), (.int .i64 n), (.bool true), (.bool false), (.bool false), (.bool false), (.pointer (some ⟨w.heap.size, 7, none⟩)), (sv he), (.int .i64 (((idsTo he 100).length : Nat) : Int)), (.pointer (some ⟨y, 0, none⟩)), (.pointer (some ⟨y, 0, none⟩)), (.pointer (some ⟨y, 0, none⟩)), (.int .i64 n), (.pointer (some ⟨y, 0, none⟩)), (.pointer (some ⟨y, 0, none⟩)), (.pointer (some ⟨y, 1, none⟩)), (.int .i64 f), (.int .i64 (n - f)), (.bool true), (.bool true), (.bool true), undef, undef, undef, undef, undef, undef, (.bool true), (.bool true), undef, undef, undef, undef, undef, undef, undef, undef, (.bool true), (.bool true), undef, undef, undef, undef, undef, undef, (.bool true)] : List Value).getD i__ undef) (fun V => JH w y w.heap.size n f D ⟨3, nd, li, ro, ta, of, du, he, un⟩ V) (by kernel_rfl) (hJ6.carry (Below.refl _ _).drew) ?_ ?_
                      · refine (sqc ?_ (sqc ?_ (sqc ?_ (sqc ?_ (sqc ?_ (sqc ?_ (sqc ?_ (sqc ?_ (sqc ?_ (sqc ?_ (sqc ?_ (sqc ?_ (sqc ?_ (sqc ?_ (sqc ?_ (sqc ?_ (sqc ?_ (sqc ?_ (sqc ?_ (sqc ?_ (sqc ?_ (sqc ?_ (sqc ?_ (sqc ?_ (sqc ?_ (sqc ?_ (sqc ?_ (sqc ?_ (sqc ?_ (sqc ?_ (sqc ?_ (sqc ?_ (sqc ?_ (sqc ?_ (sqc ?_ (sqc ?_ (sqc ?_ (sqc ?_ (sqc ?_ (sqc ?_ (sqc ?_ (sqc ?_ (sqc ?_ (sqc ?_ (sqc ?_ (sqc ?_ (sqc ?_ (sqc ?_ (sqc ?_ (sqc ?_ (sqc ?_ (sqc ?_ (sqc ?_ (sqc ?_ (sqc ?_ (sqc ?_ (sqc ?_ (sqc ?_ trivial))))))))))))))))))))))))))))))))))))))))))))))))))))))))))
                        · exact zfa rfl trivial _ _ _ _ rfl rfl (fun w hw => faE3 w _ _)
                        · exact zld rfl trivial _ _ _ rfl rfl (fun w hw => load_in ((zca hw.bx 3).trans rfl))
                        · exact zmv rfl trivial _ rfl (by kernel_rfl)
                        · exact znc rfl trivial _ _ _ rfl rfl rfl
                        · exact zfa rfl trivial _ _ _ _ rfl rfl (fun w hw => faM3 w _ _)
                        · exact zld rfl trivial _ _ _ rfl rfl (fun w hw => load_in (hw.de.cn hm (j := 3) (by decide) rfl))
                        · exact zbo rfl trivial _ _ _ _ _ _ _ rfl rfl rfl (fun w hw => by rw [← h21_0]; exact bin_neq _ _ _)
                        · exact zmv rfl trivial _ rfl (by kernel_rfl)
                        · exact zfa rfl ⟨_, rfl, by kernel_rfl⟩ _ _ _ _ rfl rfl (fun w hw => faE7 w _ _)
                        · exact zld rfl ⟨_, rfl, by kernel_rfl⟩ _ _ _ rfl rfl (fun w hw => load_se (N := he) ((zca hw.bx 7).trans rfl) ((zca hw.bx 8).trans rfl) ((zca hw.bx 9).trans rfl) ((zca hw.bx 10).trans rfl))
                        · exact zmv rfl ⟨_, rfl, by kernel_rfl⟩ _ rfl (by kernel_rfl)
                        · exact znc rfl ⟨_, rfl, by kernel_rfl⟩ _ _ _ rfl rfl rfl
                        · exact zfa rfl ⟨_, rfl, by kernel_rfl⟩ _ _ _ _ rfl rfl (fun w hw => faD0 w _ _)
                        · exact zld rfl ⟨_, rfl, by kernel_rfl⟩ _ _ _ rfl rfl (fun w hw => load_in hw.de.c0)
                        · exact zsc rfl ⟨_, rfl, by kernel_rfl⟩ 18 _ _ [(sv he), (.int .i64 n)] rfl (by kernel_rfl) (enters_of Try.func18 (by kernel_rfl) rfl) (fun w hw => (rWithin_any he hhe n w).mono (by rintro e w' ⟨rfl, hb⟩; exact ⟨congrArg (fun z => Ending.returned (Value.bool z)) h21_1, hw.carry hb⟩))
                        · exact step_unOp rfl ⟨_, rfl, by kernel_rfl⟩ _ _ _ _ rfl rfl (fun w hw => rfl)
                        · exact step_pick rfl trivial _ _ _ false rfl (by kernel_rfl) (by kernel_rfl)
                        · exact zmv rfl trivial _ rfl (by kernel_rfl)
                        · exact zfa rfl ⟨_, rfl, by kernel_rfl⟩ _ _ _ _ rfl rfl (fun w hw => faE7 w _ _)
                        · exact zld rfl ⟨_, rfl, by kernel_rfl⟩ _ _ _ rfl rfl (fun w hw => load_se (N := he) ((zca hw.bx 7).trans rfl) ((zca hw.bx 8).trans rfl) ((zca hw.bx 9).trans rfl) ((zca hw.bx 10).trans rfl))
                        · exact zsc rfl ⟨_, rfl, by kernel_rfl⟩ 19 _ _ [(sv he)] rfl (by kernel_rfl) (enters_of Try.func19 (by kernel_rfl) rfl) (fun w hw => (rCount_any he w).mono (by rintro e w' ⟨rfl, hb⟩; exact ⟨rfl, hw.carry hb⟩))
                        · exact zmv rfl ⟨_, rfl, by kernel_rfl⟩ _ rfl (by kernel_rfl)
                        · exact znc rfl ⟨_, rfl, by kernel_rfl⟩ _ _ _ rfl rfl rfl
                        · exact zfa rfl ⟨_, rfl, by kernel_rfl⟩ _ _ _ _ rfl rfl (fun w hw => faD0 w _ _)
                        · exact zld rfl ⟨_, rfl, by kernel_rfl⟩ _ _ _ rfl rfl (fun w hw => load_in hw.de.c0)
                        · exact zmv rfl ⟨_, rfl, by kernel_rfl⟩ _ rfl (by kernel_rfl)
                        · exact znc rfl ⟨_, rfl, by kernel_rfl⟩ _ _ _ rfl rfl rfl
                        · exact zfa rfl ⟨_, rfl, by kernel_rfl⟩ _ _ _ _ rfl rfl (fun w hw => faD1 w _ _)
                        · exact zld rfl ⟨_, rfl, by kernel_rfl⟩ _ _ _ rfl rfl (fun w hw => load_in hw.de.c1)
                        · exact zbo rfl ⟨_, rfl, by kernel_rfl⟩ _ _ _ _ _ _ _ rfl rfl rfl (fun w hw => bin_sub64 _ _ _ (by rw [IntKind.wrap_i64]; omega))
                        · exact zbo rfl ⟨_, rfl, by kernel_rfl⟩ _ _ _ _ _ _ _ rfl rfl rfl (fun w hw => by rw [← h21_2]; exact bin_neq _ _ _)
                        · exact step_pick rfl trivial _ _ _ false rfl (by kernel_rfl) (by kernel_rfl)
                        · exact zmv rfl trivial _ rfl (by kernel_rfl)
                        · exact zsk rfl 32 false 268 (.bool true) rfl rfl (by kernel_rfl) (by intro h; cases h) rfl
                        · exact zsk rfl 32 false 268 (.bool true) rfl rfl (by kernel_rfl) (by intro h; cases h) rfl
                        · exact zsk rfl 32 false 268 (.bool true) rfl rfl (by kernel_rfl) (by intro h; cases h) rfl
                        · exact zsk rfl 32 false 268 (.bool true) rfl rfl (by kernel_rfl) (by intro h; cases h) rfl
                        · exact zsk rfl 32 false 268 (.bool true) rfl rfl (by kernel_rfl) (by intro h; cases h) rfl
                        · exact zsk rfl 32 false 268 (.bool true) rfl rfl (by kernel_rfl) (by intro h; cases h) rfl
                        · exact step_pick rfl trivial _ _ _ true rfl (by kernel_rfl) (by kernel_rfl)
                        · exact zmv rfl trivial _ rfl (by kernel_rfl)
                        · exact zsk rfl 40 false 276 (.bool true) rfl rfl (by kernel_rfl) (by intro h; cases h) rfl
                        · exact zsk rfl 40 false 276 (.bool true) rfl rfl (by kernel_rfl) (by intro h; cases h) rfl
                        · exact zsk rfl 40 false 276 (.bool true) rfl rfl (by kernel_rfl) (by intro h; cases h) rfl
                        · exact zsk rfl 40 false 276 (.bool true) rfl rfl (by kernel_rfl) (by intro h; cases h) rfl
                        · exact zsk rfl 40 false 276 (.bool true) rfl rfl (by kernel_rfl) (by intro h; cases h) rfl
                        · exact zsk rfl 40 false 276 (.bool true) rfl rfl (by kernel_rfl) (by intro h; cases h) rfl
                        · exact zsk rfl 40 false 276 (.bool true) rfl rfl (by kernel_rfl) (by intro h; cases h) rfl
                        · exact zsk rfl 40 false 276 (.bool true) rfl rfl (by kernel_rfl) (by intro h; cases h) rfl
                        · exact step_pick rfl trivial _ _ _ true rfl (by kernel_rfl) (by kernel_rfl)
                        · exact zmv rfl trivial _ rfl (by kernel_rfl)
                        · exact zsk rfl 50 false 286 (.bool true) rfl rfl (by kernel_rfl) (by intro h; cases h) rfl
                        · exact zsk rfl 50 false 286 (.bool true) rfl rfl (by kernel_rfl) (by intro h; cases h) rfl
                        · exact zsk rfl 50 false 286 (.bool true) rfl rfl (by kernel_rfl) (by intro h; cases h) rfl
                        · exact zsk rfl 50 false 286 (.bool true) rfl rfl (by kernel_rfl) (by intro h; cases h) rfl
                        · exact zsk rfl 50 false 286 (.bool true) rfl rfl (by kernel_rfl) (by intro h; cases h) rfl
                        · exact zsk rfl 50 false 286 (.bool true) rfl rfl (by kernel_rfl) (by intro h; cases h) rfl
                        · exact step_pick rfl trivial _ _ _ true rfl (by kernel_rfl) (by kernel_rfl)
                      intro W hW
                      first | refine hK _ _ ?_ | refine (‹∀ (a : Act) (w : World), Code.wp Try.prog _ _ a w → _›) _ _ ?_ | skip
                      simp only [finL, List.getD_cons_zero, List.getD_cons_succ, Nat.zero_add, Nat.reduceAdd, List.setIfInBounds_toArray, List.set_cons_zero, List.set_cons_succ]
                      go_wp2
                      go_ret
                      exact ho_no (by rw [HO2]; unfold dlw dl3; try simp only [h4_0]; try simp only [h21_0]; try simp only [h21_1]; try simp only [h21_2]; rfl) hW.tn
                    | false =>
                      cases h21_3 : hasB he nd with
                      | true =>
                        cases h21_4 : wthB un n with
                        | true =>
                          cases h21_5 : decide (cln (dif he un) = 0) with
                          | true =>
                            refine wp_region_any hmx ?_
                            refine zwp (fun i__ => ([(.pointer (some ⟨w.heap.size, 3, none⟩)), (.int .i64 ro), (.pointer (some ⟨y, 2 + m * 6, none⟩)), (.pointer (some ⟨y, 2 + m * 6, none⟩)), (.pointer (some ⟨y, 2 + m * 6 + 3, none⟩)), (.int .i64 u.op), (.bool false), (.bool false), (.pointer (some ⟨w.heap.size, 7, none⟩)), (sv he), (.pointer (some ⟨y, 0, none⟩)), (.pointer (some ⟨y, 0, none⟩)), (.pointer (some ⟨y, 0, none⟩)), (.int .i64 n), (.bool true), (.bool false), (.bool false), (.bool false), (.pointer (some ⟨w.heap.size, 7, none⟩)), (sv he), (.int .i64 (((idsTo he 100).length : Nat) : Int)), (.pointer (some ⟨y, 0, none⟩)), (.pointer (some ⟨y, 0, none⟩)), (.pointer (some ⟨y, 0, none⟩)), (.int .i64 n), (.pointer (some ⟨y, 0, none⟩)), (.pointer (some ⟨y, 0, none⟩)), (.pointer (some ⟨y, 1, none⟩)), (.int .i64 f), (.int .i64 (n - f)), (.bool false), (.bool false), (.bool false), (.pointer (some ⟨w.heap.size, 7, none⟩)), (sv he), (.pointer (some ⟨w.heap.size, 1, none⟩)), (.int .i64 nd), (.bool true), (.bool false), (.bool false), (.bool false), (.pointer (some ⟨w.heap.size, 11, none⟩)), (sv un), (.pointer (some ⟨y, 0, none⟩)), (.pointer (some ⟨y, 0, none⟩)), (.pointer (some ⟨y, 0, none⟩)), (.int .i64 n), (.bool true), (.bool false), (.bool false), (.bool false), (.pointer (some ⟨w.heap.size, 7, none⟩)), (sv he), (.pointer (some ⟨w.heap.size, 11, none⟩)), (sv un), (.bool true), (.bool false), (.bool false)] : List Value).getD i__ undef) (fun V => JH w y w.heap.size n f D ⟨3, nd, li, ro, ta, of, du, he, un⟩ V) (by kernel_rfl) (hJ6.carry (Below.refl _ _).drew) ?_ ?_
                            · refine (sqc ?_ (sqc ?_ (sqc ?_ (sqc ?_ (sqc ?_ (sqc ?_ (sqc ?_ (sqc ?_ (sqc ?_ (sqc ?_ (sqc ?_ (sqc ?_ (sqc ?_ (sqc ?_ (sqc ?_ (sqc ?_ (sqc ?_ (sqc ?_ (sqc ?_ (sqc ?_ (sqc ?_ (sqc ?_ (sqc ?_ (sqc ?_ (sqc ?_ (sqc ?_ (sqc ?_ (sqc ?_ (sqc ?_ (sqc ?_ (sqc ?_ (sqc ?_ (sqc ?_ (sqc ?_ (sqc ?_ (sqc ?_ (sqc ?_ (sqc ?_ (sqc ?_ (sqc ?_ (sqc ?_ (sqc ?_ (sqc ?_ (sqc ?_ (sqc ?_ (sqc ?_ (sqc ?_ (sqc ?_ (sqc ?_ (sqc ?_ (sqc ?_ (sqc ?_ (sqc ?_ (sqc ?_ (sqc ?_ (sqc ?_ (sqc ?_ (sqc ?_ trivial))))))))))))))))))))))))))))))))))))))))))))))))))))))))))
                              · exact zfa rfl trivial _ _ _ _ rfl rfl (fun w hw => faE3 w _ _)
                              · exact zld rfl trivial _ _ _ rfl rfl (fun w hw => load_in ((zca hw.bx 3).trans rfl))
                              · exact zmv rfl trivial _ rfl (by kernel_rfl)
                              · exact znc rfl trivial _ _ _ rfl rfl rfl
                              · exact zfa rfl trivial _ _ _ _ rfl rfl (fun w hw => faM3 w _ _)
                              · exact zld rfl trivial _ _ _ rfl rfl (fun w hw => load_in (hw.de.cn hm (j := 3) (by decide) rfl))
                              · exact zbo rfl trivial _ _ _ _ _ _ _ rfl rfl rfl (fun w hw => by rw [← h21_0]; exact bin_neq _ _ _)
                              · exact zmv rfl trivial _ rfl (by kernel_rfl)
                              · exact zfa rfl ⟨_, rfl, by kernel_rfl⟩ _ _ _ _ rfl rfl (fun w hw => faE7 w _ _)
                              · exact zld rfl ⟨_, rfl, by kernel_rfl⟩ _ _ _ rfl rfl (fun w hw => load_se (N := he) ((zca hw.bx 7).trans rfl) ((zca hw.bx 8).trans rfl) ((zca hw.bx 9).trans rfl) ((zca hw.bx 10).trans rfl))
                              · exact zmv rfl ⟨_, rfl, by kernel_rfl⟩ _ rfl (by kernel_rfl)
                              · exact znc rfl ⟨_, rfl, by kernel_rfl⟩ _ _ _ rfl rfl rfl
                              · exact zfa rfl ⟨_, rfl, by kernel_rfl⟩ _ _ _ _ rfl rfl (fun w hw => faD0 w _ _)
                              · exact zld rfl ⟨_, rfl, by kernel_rfl⟩ _ _ _ rfl rfl (fun w hw => load_in hw.de.c0)
                              · exact zsc rfl ⟨_, rfl, by kernel_rfl⟩ 18 _ _ [(sv he), (.int .i64 n)] rfl (by kernel_rfl) (enters_of Try.func18 (by kernel_rfl) rfl) (fun w hw => (rWithin_any he hhe n w).mono (by rintro e w' ⟨rfl, hb⟩; exact ⟨congrArg (fun z => Ending.returned (Value.bool z)) h21_1, hw.carry hb⟩))
                              · exact step_unOp rfl ⟨_, rfl, by kernel_rfl⟩ _ _ _ _ rfl rfl (fun w hw => rfl)
                              · exact step_pick rfl trivial _ _ _ false rfl (by kernel_rfl) (by kernel_rfl)
                              · exact zmv rfl trivial _ rfl (by kernel_rfl)
                              · exact zfa rfl ⟨_, rfl, by kernel_rfl⟩ _ _ _ _ rfl rfl (fun w hw => faE7 w _ _)
                              · exact zld rfl ⟨_, rfl, by kernel_rfl⟩ _ _ _ rfl rfl (fun w hw => load_se (N := he) ((zca hw.bx 7).trans rfl) ((zca hw.bx 8).trans rfl) ((zca hw.bx 9).trans rfl) ((zca hw.bx 10).trans rfl))
                              · exact zsc rfl ⟨_, rfl, by kernel_rfl⟩ 19 _ _ [(sv he)] rfl (by kernel_rfl) (enters_of Try.func19 (by kernel_rfl) rfl) (fun w hw => (rCount_any he w).mono (by rintro e w' ⟨rfl, hb⟩; exact ⟨rfl, hw.carry hb⟩))
                              · exact zmv rfl ⟨_, rfl, by kernel_rfl⟩ _ rfl (by kernel_rfl)
                              · exact znc rfl ⟨_, rfl, by kernel_rfl⟩ _ _ _ rfl rfl rfl
                              · exact zfa rfl ⟨_, rfl, by kernel_rfl⟩ _ _ _ _ rfl rfl (fun w hw => faD0 w _ _)
                              · exact zld rfl ⟨_, rfl, by kernel_rfl⟩ _ _ _ rfl rfl (fun w hw => load_in hw.de.c0)
                              · exact zmv rfl ⟨_, rfl, by kernel_rfl⟩ _ rfl (by kernel_rfl)
                              · exact znc rfl ⟨_, rfl, by kernel_rfl⟩ _ _ _ rfl rfl rfl
                              · exact zfa rfl ⟨_, rfl, by kernel_rfl⟩ _ _ _ _ rfl rfl (fun w hw => faD1 w _ _)
                              · exact zld rfl ⟨_, rfl, by kernel_rfl⟩ _ _ _ rfl rfl (fun w hw => load_in hw.de.c1)
                              · exact zbo rfl ⟨_, rfl, by kernel_rfl⟩ _ _ _ _ _ _ _ rfl rfl rfl (fun w hw => bin_sub64 _ _ _ (by rw [IntKind.wrap_i64]; omega))
                              · exact zbo rfl ⟨_, rfl, by kernel_rfl⟩ _ _ _ _ _ _ _ rfl rfl rfl (fun w hw => by rw [← h21_2]; exact bin_neq _ _ _)
                              · exact step_pick rfl trivial _ _ _ false rfl (by kernel_rfl) (by kernel_rfl)
                              · exact zmv rfl trivial _ rfl (by kernel_rfl)
                              · exact zfa rfl ⟨_, rfl, by kernel_rfl⟩ _ _ _ _ rfl rfl (fun w hw => faE7 w _ _)
                              · exact zld rfl ⟨_, rfl, by kernel_rfl⟩ _ _ _ rfl rfl (fun w hw => load_se (N := he) ((zca hw.bx 7).trans rfl) ((zca hw.bx 8).trans rfl) ((zca hw.bx 9).trans rfl) ((zca hw.bx 10).trans rfl))
                              · exact zfa rfl ⟨_, rfl, by kernel_rfl⟩ _ _ _ _ rfl rfl (fun w hw => faE1 w _ _)
                              · exact zld rfl ⟨_, rfl, by kernel_rfl⟩ _ _ _ rfl rfl (fun w hw => load_in ((zca hw.bx 1).trans rfl))
                              · exact zsc rfl ⟨_, rfl, by kernel_rfl⟩ 20 _ _ [(sv he), (.int .i64 nd)] rfl (by kernel_rfl) (enters_of Try.func20 (by kernel_rfl) rfl) (fun w hw => (rHas_any (he) (nd) w).mono (by rintro e w' ⟨rfl, hb⟩; exact ⟨congrArg (fun z => Ending.returned (Value.bool z)) h21_3, hw.carry hb⟩))
                              · exact step_unOp rfl ⟨_, rfl, by kernel_rfl⟩ _ _ _ _ rfl rfl (fun w hw => rfl)
                              · exact step_pick rfl trivial _ _ _ false rfl (by kernel_rfl) (by kernel_rfl)
                              · exact zmv rfl trivial _ rfl (by kernel_rfl)
                              · exact zfa rfl ⟨_, rfl, by kernel_rfl⟩ _ _ _ _ rfl rfl (fun w hw => faE8 w _ _)
                              · exact zld rfl ⟨_, rfl, by kernel_rfl⟩ _ _ _ rfl rfl (fun w hw => load_se (N := un) ((zca hw.bx 11).trans rfl) ((zca hw.bx 12).trans rfl) ((zca hw.bx 13).trans rfl) ((zca hw.bx 14).trans rfl))
                              · exact zmv rfl ⟨_, rfl, by kernel_rfl⟩ _ rfl (by kernel_rfl)
                              · exact znc rfl ⟨_, rfl, by kernel_rfl⟩ _ _ _ rfl rfl rfl
                              · exact zfa rfl ⟨_, rfl, by kernel_rfl⟩ _ _ _ _ rfl rfl (fun w hw => faD0 w _ _)
                              · exact zld rfl ⟨_, rfl, by kernel_rfl⟩ _ _ _ rfl rfl (fun w hw => load_in hw.de.c0)
                              · exact zsc rfl ⟨_, rfl, by kernel_rfl⟩ 18 _ _ [(sv un), (.int .i64 n)] rfl (by kernel_rfl) (enters_of Try.func18 (by kernel_rfl) rfl) (fun w hw => (rWithin_any un hun n w).mono (by rintro e w' ⟨rfl, hb⟩; exact ⟨congrArg (fun z => Ending.returned (Value.bool z)) h21_4, hw.carry hb⟩))
                              · exact step_unOp rfl ⟨_, rfl, by kernel_rfl⟩ _ _ _ _ rfl rfl (fun w hw => rfl)
                              · exact step_pick rfl trivial _ _ _ false rfl (by kernel_rfl) (by kernel_rfl)
                              · exact zmv rfl trivial _ rfl (by kernel_rfl)
                              · exact zfa rfl ⟨_, rfl, by kernel_rfl⟩ _ _ _ _ rfl rfl (fun w hw => faE7 w _ _)
                              · exact zld rfl ⟨_, rfl, by kernel_rfl⟩ _ _ _ rfl rfl (fun w hw => load_se (N := he) ((zca hw.bx 7).trans rfl) ((zca hw.bx 8).trans rfl) ((zca hw.bx 9).trans rfl) ((zca hw.bx 10).trans rfl))
                              · exact zfa rfl ⟨_, rfl, by kernel_rfl⟩ _ _ _ _ rfl rfl (fun w hw => faE8 w _ _)
                              · exact zld rfl ⟨_, rfl, by kernel_rfl⟩ _ _ _ rfl rfl (fun w hw => load_se (N := un) ((zca hw.bx 11).trans rfl) ((zca hw.bx 12).trans rfl) ((zca hw.bx 13).trans rfl) ((zca hw.bx 14).trans rfl))
                              · exact zsc rfl ⟨_, rfl, by kernel_rfl⟩ 21 _ _ [(sv he), (sv un)] rfl (by kernel_rfl) (enters_of Try.func21 (by kernel_rfl) rfl) (fun w hw => (rSubset_any he un w).mono (by rintro e w' ⟨rfl, hb⟩; exact ⟨congrArg (fun z => Ending.returned (Value.bool z)) h21_5, hw.carry hb⟩))
                              · exact step_unOp rfl ⟨_, rfl, by kernel_rfl⟩ _ _ _ _ rfl rfl (fun w hw => rfl)
                              · exact step_pick rfl trivial _ _ _ false rfl (by kernel_rfl) (by kernel_rfl)
                            intro W hW
                            first | refine hK _ _ ?_ | refine (‹∀ (a : Act) (w : World), Code.wp Try.prog _ _ a w → _›) _ _ ?_ | skip
                            simp only [finL, List.getD_cons_zero, List.getD_cons_succ, Nat.zero_add, Nat.reduceAdd, List.setIfInBounds_toArray, List.set_cons_zero, List.set_cons_succ]
                            obtain ⟨W7, rfl⟩ : ∃ V, V = W := ⟨_, rfl⟩
                            have hJ7 := hW
                            clear hW
                            go_wp2
                            refine wp_region_any hmx ?_
                            refine zwt (G := Unit) (fun g i__ => ([(.pointer (some ⟨y, 0, none⟩)), (.pointer (some ⟨y, 0, none⟩)), (.pointer (some ⟨y, 0, none⟩)), (evV ⟨3, nd, li, ro, ta, of, du, he, un⟩), (.pointer (some ⟨y, 0, none⟩)), (.pointer (some ⟨y, 602, none⟩)), undef, (.pointer (some ⟨y, 0, none⟩)), (.pointer (some ⟨y, 603, none⟩)), undef, (.pointer (some ⟨y, 0, none⟩)), (.pointer (some ⟨y, 618, none⟩)), undef] : List Value).getD i__ undef) (fun g d V => ∃ D2 : Ds, D2 = ⟨D.ds, if d 6 = true then true else D.rb, if d 9 = true then ⟨3, nd, li, ro, ta, of, du, he, un⟩ else D.c, if d 12 = true then -1 else D.la⟩ ∧ JH w y w.heap.size n f D2 ⟨3, nd, li, ro, ta, of, du, he, un⟩ V) (by kernel_rfl) (()) ⟨D, by simp, hJ7.carry (Below.refl _ _).drew⟩ ?step2 ?fin2
                            case step2 =>
                              intro i o ho
                              have hi : i < 13 := getElem?_lt ho
                              match i, hi, ho with
                              | 0, _, ho => cases ho; exact zgo fun g d hdep => zmv rfl trivial _ rfl (by kernel_rfl)
                              | 1, _, ho => cases ho; exact zgo fun g d hdep => zmv rfl trivial _ rfl (by kernel_rfl)
                              | 2, _, ho => cases ho; exact zgo fun g d hdep => zmv rfl trivial _ rfl (by kernel_rfl)
                              | 3, _, ho => cases ho; exact zgo fun g d hdep => zld rfl trivial _ _ _ rfl rfl (fun w hw => by obtain ⟨D2, hD2, hw⟩ := hw; exact load_bx hw.bx)
                              | 4, _, ho => cases ho; exact zgo fun g d hdep => znc rfl trivial _ _ _ rfl rfl rfl
                              | 5, _, ho => cases ho; exact zgo fun g d hdep => zfa rfl trivial _ _ _ _ rfl rfl (fun w hw => faD3 w _ _)
                              | 6, _, ho => cases ho; exact stepG_store rfl rfl rfl _ _ _ (fun g => .pointer (some ⟨y, 602, none⟩)) (fun g => .bool true) rfl (fun g => by kernel_rfl) (fun g => by kernel_rfl) (fun g d V hJ hun hdep => by obtain ⟨D2, hD2, hJ'⟩ := hJ; refine ⟨_, st_bo hJ'.de.crb (hJ'.de.frz _), _, ?_, hJ'.put _ _ (hJ'.de.rput true)⟩; rw [hD2]; simp)
                              | 7, _, ho => cases ho; exact zgo fun g d hdep => znc rfl trivial _ _ _ rfl rfl rfl
                              | 8, _, ho => cases ho; exact zgo fun g d hdep => zfa rfl trivial _ _ _ _ rfl rfl (fun w hw => faD4 w _ _)
                              | 9, _, ho => cases ho; exact stepG_store rfl rfl rfl _ _ _ (fun g => .pointer (some ⟨y, 603, none⟩)) (fun g => evV ⟨3, nd, li, ro, ta, of, du, he, un⟩) rfl (fun g => by kernel_rfl) (fun g => by kernel_rfl) (fun g d V hJ hun hdep => by obtain ⟨D2, hD2, hJ'⟩ := hJ; refine ⟨_, run_store_in V y 603 50 34 (deC n f D2) (ec ⟨3, nd, li, ro, ta, of, du, he, un⟩) hJ'.de.box info_ev (by rw [deC_len hJ'.de.ln, ec_len]; decide) (ec_ones _), _, ?_, ⟨hJ'.de.cput ⟨3, nd, li, ro, ta, of, du, he, un⟩, (setRow_other (dqy hJ'.de hJ'.bx)).trans hJ'.bx, hJ'.tn.trans (Tn.row _ _ _ _)⟩⟩; rw [hD2]; simp)
                              | 10, _, ho => cases ho; exact zgo fun g d hdep => znc rfl trivial _ _ _ rfl rfl rfl
                              | 11, _, ho => cases ho; exact zgo fun g d hdep => zfa rfl trivial _ _ _ _ rfl rfl (fun w hw => faD5 w _ _)
                              | 12, _, ho => cases ho; exact stepG_store rfl rfl rfl _ _ _ (fun g => .pointer (some ⟨y, 618, none⟩)) (fun g => .int .i64 (-1)) rfl (fun g => by kernel_rfl) (fun g => by kernel_rfl) (fun g d V hJ hun hdep => by obtain ⟨D2, hD2, hJ'⟩ := hJ; refine ⟨_, st_in hJ'.de.cla (hJ'.de.frz _), _, ?_, hJ'.put _ _ (hJ'.de.lput (-1))⟩; rw [hD2]; simp)
                            intro g d W hall hW
                            first | refine hK _ _ ?_ | refine (‹∀ (a : Act) (w : World), Code.wp Try.prog _ _ a w → _›) _ _ ?_ | skip
                            simp only [finL, List.getD_cons_zero, List.getD_cons_succ, Nat.zero_add, Nat.reduceAdd, List.setIfInBounds_toArray, List.set_cons_zero, List.set_cons_succ]
                            rw [hall 6 (by decide), hall 9 (by decide), hall 12 (by decide)] at hW
                            obtain ⟨D2, hD2, hJ8⟩ := hW
                            simp only [if_true] at hD2
                            go_wp2
                            go_ret
                            exact ho_yes (by rw [HO2]; unfold dlw dl3; try simp only [h4_0]; try simp only [h21_0]; try simp only [h21_1]; try simp only [h21_2]; try simp only [h21_3]; try simp only [h21_4]; try simp only [h21_5]; rfl) (hD2 ▸ hJ8.de) hJ8.tn
                          | false =>
                            refine wp_region_any hmx ?_
                            refine zwp (fun i__ => ([(.pointer (some ⟨w.heap.size, 3, none⟩)), (.int .i64 ro), (.pointer (some ⟨y, 2 + m * 6, none⟩)), (.pointer (some ⟨y, 2 + m * 6, none⟩)), (.pointer (some ⟨y, 2 + m * 6 + 3, none⟩)), (.int .i64 u.op), (.bool false), (.bool false), (.pointer (some ⟨w.heap.size, 7, none⟩)), (sv he), (.pointer (some ⟨y, 0, none⟩)), (.pointer (some ⟨y, 0, none⟩)), (.pointer (some ⟨y, 0, none⟩)), (.int .i64 n), (.bool true), (.bool false), (.bool false), (.bool false), (.pointer (some ⟨w.heap.size, 7, none⟩)), (sv he), (.int .i64 (((idsTo he 100).length : Nat) : Int)), (.pointer (some ⟨y, 0, none⟩)), (.pointer (some ⟨y, 0, none⟩)), (.pointer (some ⟨y, 0, none⟩)), (.int .i64 n), (.pointer (some ⟨y, 0, none⟩)), (.pointer (some ⟨y, 0, none⟩)), (.pointer (some ⟨y, 1, none⟩)), (.int .i64 f), (.int .i64 (n - f)), (.bool false), (.bool false), (.bool false), (.pointer (some ⟨w.heap.size, 7, none⟩)), (sv he), (.pointer (some ⟨w.heap.size, 1, none⟩)), (.int .i64 nd), (.bool true), (.bool false), (.bool false), (.bool false), (.pointer (some ⟨w.heap.size, 11, none⟩)), (sv un), (.pointer (some ⟨y, 0, none⟩)), (.pointer (some ⟨y, 0, none⟩)), (.pointer (some ⟨y, 0, none⟩)), (.int .i64 n), (.bool true), (.bool false), (.bool false), (.bool false), (.pointer (some ⟨w.heap.size, 7, none⟩)), (sv he), (.pointer (some ⟨w.heap.size, 11, none⟩)), (sv un), (.bool false), (.bool true), (.bool true)] : List Value).getD i__ undef) (fun V => JH w y w.heap.size n f D ⟨3, nd, li, ro, ta, of, du, he, un⟩ V) (by kernel_rfl) (hJ6.carry (Below.refl _ _).drew) ?_ ?_
                            · refine (sqc ?_ (sqc ?_ (sqc ?_ (sqc ?_ (sqc ?_ (sqc ?_ (sqc ?_ (sqc ?_ (sqc ?_ (sqc ?_ (sqc ?_ (sqc ?_ (sqc ?_ (sqc ?_ (sqc ?_ (sqc ?_ (sqc ?_ (sqc ?_ (sqc ?_ (sqc ?_ (sqc ?_ (sqc ?_ (sqc ?_ (sqc ?_ (sqc ?_ (sqc ?_ (sqc ?_ (sqc ?_ (sqc ?_ (sqc ?_ (sqc ?_ (sqc ?_ (sqc ?_ (sqc ?_ (sqc ?_ (sqc ?_ (sqc ?_ (sqc ?_ (sqc ?_ (sqc ?_ (sqc ?_ (sqc ?_ (sqc ?_ (sqc ?_ (sqc ?_ (sqc ?_ (sqc ?_ (sqc ?_ (sqc ?_ (sqc ?_ (sqc ?_ (sqc ?_ (sqc ?_ (sqc ?_ (sqc ?_ (sqc ?_ (sqc ?_ (sqc ?_ trivial))))))))))))))))))))))))))))))))))))))))))))))))))))))))))
                              · exact zfa rfl trivial _ _ _ _ rfl rfl (fun w hw => faE3 w _ _)
                              · exact zld rfl trivial _ _ _ rfl rfl (fun w hw => load_in ((zca hw.bx 3).trans rfl))
                              · exact zmv rfl trivial _ rfl (by kernel_rfl)
                              · exact znc rfl trivial _ _ _ rfl rfl rfl
                              · exact zfa rfl trivial _ _ _ _ rfl rfl (fun w hw => faM3 w _ _)
                              · exact zld rfl trivial _ _ _ rfl rfl (fun w hw => load_in (hw.de.cn hm (j := 3) (by decide) rfl))
                              · exact zbo rfl trivial _ _ _ _ _ _ _ rfl rfl rfl (fun w hw => by rw [← h21_0]; exact bin_neq _ _ _)
                              · exact zmv rfl trivial _ rfl (by kernel_rfl)
                              · exact zfa rfl ⟨_, rfl, by kernel_rfl⟩ _ _ _ _ rfl rfl (fun w hw => faE7 w _ _)
                              · exact zld rfl ⟨_, rfl, by kernel_rfl⟩ _ _ _ rfl rfl (fun w hw => load_se (N := he) ((zca hw.bx 7).trans rfl) ((zca hw.bx 8).trans rfl) ((zca hw.bx 9).trans rfl) ((zca hw.bx 10).trans rfl))
                              · exact zmv rfl ⟨_, rfl, by kernel_rfl⟩ _ rfl (by kernel_rfl)
                              · exact znc rfl ⟨_, rfl, by kernel_rfl⟩ _ _ _ rfl rfl rfl
                              · exact zfa rfl ⟨_, rfl, by kernel_rfl⟩ _ _ _ _ rfl rfl (fun w hw => faD0 w _ _)
                              · exact zld rfl ⟨_, rfl, by kernel_rfl⟩ _ _ _ rfl rfl (fun w hw => load_in hw.de.c0)
                              · exact zsc rfl ⟨_, rfl, by kernel_rfl⟩ 18 _ _ [(sv he), (.int .i64 n)] rfl (by kernel_rfl) (enters_of Try.func18 (by kernel_rfl) rfl) (fun w hw => (rWithin_any he hhe n w).mono (by rintro e w' ⟨rfl, hb⟩; exact ⟨congrArg (fun z => Ending.returned (Value.bool z)) h21_1, hw.carry hb⟩))
                              · exact step_unOp rfl ⟨_, rfl, by kernel_rfl⟩ _ _ _ _ rfl rfl (fun w hw => rfl)
                              · exact step_pick rfl trivial _ _ _ false rfl (by kernel_rfl) (by kernel_rfl)
                              · exact zmv rfl trivial _ rfl (by kernel_rfl)
                              · exact zfa rfl ⟨_, rfl, by kernel_rfl⟩ _ _ _ _ rfl rfl (fun w hw => faE7 w _ _)
                              · exact zld rfl ⟨_, rfl, by kernel_rfl⟩ _ _ _ rfl rfl (fun w hw => load_se (N := he) ((zca hw.bx 7).trans rfl) ((zca hw.bx 8).trans rfl) ((zca hw.bx 9).trans rfl) ((zca hw.bx 10).trans rfl))
                              · exact zsc rfl ⟨_, rfl, by kernel_rfl⟩ 19 _ _ [(sv he)] rfl (by kernel_rfl) (enters_of Try.func19 (by kernel_rfl) rfl) (fun w hw => (rCount_any he w).mono (by rintro e w' ⟨rfl, hb⟩; exact ⟨rfl, hw.carry hb⟩))
                              · exact zmv rfl ⟨_, rfl, by kernel_rfl⟩ _ rfl (by kernel_rfl)
                              · exact znc rfl ⟨_, rfl, by kernel_rfl⟩ _ _ _ rfl rfl rfl
                              · exact zfa rfl ⟨_, rfl, by kernel_rfl⟩ _ _ _ _ rfl rfl (fun w hw => faD0 w _ _)
                              · exact zld rfl ⟨_, rfl, by kernel_rfl⟩ _ _ _ rfl rfl (fun w hw => load_in hw.de.c0)
                              · exact zmv rfl ⟨_, rfl, by kernel_rfl⟩ _ rfl (by kernel_rfl)
                              · exact znc rfl ⟨_, rfl, by kernel_rfl⟩ _ _ _ rfl rfl rfl
                              · exact zfa rfl ⟨_, rfl, by kernel_rfl⟩ _ _ _ _ rfl rfl (fun w hw => faD1 w _ _)
                              · exact zld rfl ⟨_, rfl, by kernel_rfl⟩ _ _ _ rfl rfl (fun w hw => load_in hw.de.c1)
                              · exact zbo rfl ⟨_, rfl, by kernel_rfl⟩ _ _ _ _ _ _ _ rfl rfl rfl (fun w hw => bin_sub64 _ _ _ (by rw [IntKind.wrap_i64]; omega))
                              · exact zbo rfl ⟨_, rfl, by kernel_rfl⟩ _ _ _ _ _ _ _ rfl rfl rfl (fun w hw => by rw [← h21_2]; exact bin_neq _ _ _)
                              · exact step_pick rfl trivial _ _ _ false rfl (by kernel_rfl) (by kernel_rfl)
                              · exact zmv rfl trivial _ rfl (by kernel_rfl)
                              · exact zfa rfl ⟨_, rfl, by kernel_rfl⟩ _ _ _ _ rfl rfl (fun w hw => faE7 w _ _)
                              · exact zld rfl ⟨_, rfl, by kernel_rfl⟩ _ _ _ rfl rfl (fun w hw => load_se (N := he) ((zca hw.bx 7).trans rfl) ((zca hw.bx 8).trans rfl) ((zca hw.bx 9).trans rfl) ((zca hw.bx 10).trans rfl))
                              · exact zfa rfl ⟨_, rfl, by kernel_rfl⟩ _ _ _ _ rfl rfl (fun w hw => faE1 w _ _)
                              · exact zld rfl ⟨_, rfl, by kernel_rfl⟩ _ _ _ rfl rfl (fun w hw => load_in ((zca hw.bx 1).trans rfl))
                              · exact zsc rfl ⟨_, rfl, by kernel_rfl⟩ 20 _ _ [(sv he), (.int .i64 nd)] rfl (by kernel_rfl) (enters_of Try.func20 (by kernel_rfl) rfl) (fun w hw => (rHas_any (he) (nd) w).mono (by rintro e w' ⟨rfl, hb⟩; exact ⟨congrArg (fun z => Ending.returned (Value.bool z)) h21_3, hw.carry hb⟩))
                              · exact step_unOp rfl ⟨_, rfl, by kernel_rfl⟩ _ _ _ _ rfl rfl (fun w hw => rfl)
                              · exact step_pick rfl trivial _ _ _ false rfl (by kernel_rfl) (by kernel_rfl)
                              · exact zmv rfl trivial _ rfl (by kernel_rfl)
                              · exact zfa rfl ⟨_, rfl, by kernel_rfl⟩ _ _ _ _ rfl rfl (fun w hw => faE8 w _ _)
                              · exact zld rfl ⟨_, rfl, by kernel_rfl⟩ _ _ _ rfl rfl (fun w hw => load_se (N := un) ((zca hw.bx 11).trans rfl) ((zca hw.bx 12).trans rfl) ((zca hw.bx 13).trans rfl) ((zca hw.bx 14).trans rfl))
                              · exact zmv rfl ⟨_, rfl, by kernel_rfl⟩ _ rfl (by kernel_rfl)
                              · exact znc rfl ⟨_, rfl, by kernel_rfl⟩ _ _ _ rfl rfl rfl
                              · exact zfa rfl ⟨_, rfl, by kernel_rfl⟩ _ _ _ _ rfl rfl (fun w hw => faD0 w _ _)
                              · exact zld rfl ⟨_, rfl, by kernel_rfl⟩ _ _ _ rfl rfl (fun w hw => load_in hw.de.c0)
                              · exact zsc rfl ⟨_, rfl, by kernel_rfl⟩ 18 _ _ [(sv un), (.int .i64 n)] rfl (by kernel_rfl) (enters_of Try.func18 (by kernel_rfl) rfl) (fun w hw => (rWithin_any un hun n w).mono (by rintro e w' ⟨rfl, hb⟩; exact ⟨congrArg (fun z => Ending.returned (Value.bool z)) h21_4, hw.carry hb⟩))
                              · exact step_unOp rfl ⟨_, rfl, by kernel_rfl⟩ _ _ _ _ rfl rfl (fun w hw => rfl)
                              · exact step_pick rfl trivial _ _ _ false rfl (by kernel_rfl) (by kernel_rfl)
                              · exact zmv rfl trivial _ rfl (by kernel_rfl)
                              · exact zfa rfl ⟨_, rfl, by kernel_rfl⟩ _ _ _ _ rfl rfl (fun w hw => faE7 w _ _)
                              · exact zld rfl ⟨_, rfl, by kernel_rfl⟩ _ _ _ rfl rfl (fun w hw => load_se (N := he) ((zca hw.bx 7).trans rfl) ((zca hw.bx 8).trans rfl) ((zca hw.bx 9).trans rfl) ((zca hw.bx 10).trans rfl))
                              · exact zfa rfl ⟨_, rfl, by kernel_rfl⟩ _ _ _ _ rfl rfl (fun w hw => faE8 w _ _)
                              · exact zld rfl ⟨_, rfl, by kernel_rfl⟩ _ _ _ rfl rfl (fun w hw => load_se (N := un) ((zca hw.bx 11).trans rfl) ((zca hw.bx 12).trans rfl) ((zca hw.bx 13).trans rfl) ((zca hw.bx 14).trans rfl))
                              · exact zsc rfl ⟨_, rfl, by kernel_rfl⟩ 21 _ _ [(sv he), (sv un)] rfl (by kernel_rfl) (enters_of Try.func21 (by kernel_rfl) rfl) (fun w hw => (rSubset_any he un w).mono (by rintro e w' ⟨rfl, hb⟩; exact ⟨congrArg (fun z => Ending.returned (Value.bool z)) h21_5, hw.carry hb⟩))
                              · exact step_unOp rfl ⟨_, rfl, by kernel_rfl⟩ _ _ _ _ rfl rfl (fun w hw => rfl)
                              · exact step_pick rfl trivial _ _ _ false rfl (by kernel_rfl) (by kernel_rfl)
                            intro W hW
                            first | refine hK _ _ ?_ | refine (‹∀ (a : Act) (w : World), Code.wp Try.prog _ _ a w → _›) _ _ ?_ | skip
                            simp only [finL, List.getD_cons_zero, List.getD_cons_succ, Nat.zero_add, Nat.reduceAdd, List.setIfInBounds_toArray, List.set_cons_zero, List.set_cons_succ]
                            go_wp2
                            go_ret
                            exact ho_no (by rw [HO2]; unfold dlw dl3; try simp only [h4_0]; try simp only [h21_0]; try simp only [h21_1]; try simp only [h21_2]; try simp only [h21_3]; try simp only [h21_4]; try simp only [h21_5]; rfl) hW.tn
                        | false =>
                          refine wp_region_any hmx ?_
                          refine zwp (fun i__ => ([(.pointer (some ⟨w.heap.size, 3, none⟩)), (.int .i64 ro), (.pointer (some ⟨y, 2 + m * 6, none⟩)), (.pointer (some ⟨y, 2 + m * 6, none⟩)), (.pointer (some ⟨y, 2 + m * 6 + 3, none⟩)), (.int .i64 u.op), (.bool false), (.bool false), (.pointer (some ⟨w.heap.size, 7, none⟩)), (sv he), (.pointer (some ⟨y, 0, none⟩)), (.pointer (some ⟨y, 0, none⟩)), (.pointer (some ⟨y, 0, none⟩)), (.int .i64 n), (.bool true), (.bool false), (.bool false), (.bool false), (.pointer (some ⟨w.heap.size, 7, none⟩)), (sv he), (.int .i64 (((idsTo he 100).length : Nat) : Int)), (.pointer (some ⟨y, 0, none⟩)), (.pointer (some ⟨y, 0, none⟩)), (.pointer (some ⟨y, 0, none⟩)), (.int .i64 n), (.pointer (some ⟨y, 0, none⟩)), (.pointer (some ⟨y, 0, none⟩)), (.pointer (some ⟨y, 1, none⟩)), (.int .i64 f), (.int .i64 (n - f)), (.bool false), (.bool false), (.bool false), (.pointer (some ⟨w.heap.size, 7, none⟩)), (sv he), (.pointer (some ⟨w.heap.size, 1, none⟩)), (.int .i64 nd), (.bool true), (.bool false), (.bool false), (.bool false), (.pointer (some ⟨w.heap.size, 11, none⟩)), (sv un), (.pointer (some ⟨y, 0, none⟩)), (.pointer (some ⟨y, 0, none⟩)), (.pointer (some ⟨y, 0, none⟩)), (.int .i64 n), (.bool false), (.bool true), (.bool true), (.bool true), undef, undef, undef, undef, undef, undef, (.bool true)] : List Value).getD i__ undef) (fun V => JH w y w.heap.size n f D ⟨3, nd, li, ro, ta, of, du, he, un⟩ V) (by kernel_rfl) (hJ6.carry (Below.refl _ _).drew) ?_ ?_
                          · refine (sqc ?_ (sqc ?_ (sqc ?_ (sqc ?_ (sqc ?_ (sqc ?_ (sqc ?_ (sqc ?_ (sqc ?_ (sqc ?_ (sqc ?_ (sqc ?_ (sqc ?_ (sqc ?_ (sqc ?_ (sqc ?_ (sqc ?_ (sqc ?_ (sqc ?_ (sqc ?_ (sqc ?_ (sqc ?_ (sqc ?_ (sqc ?_ (sqc ?_ (sqc ?_ (sqc ?_ (sqc ?_ (sqc ?_ (sqc ?_ (sqc ?_ (sqc ?_ (sqc ?_ (sqc ?_ (sqc ?_ (sqc ?_ (sqc ?_ (sqc ?_ (sqc ?_ (sqc ?_ (sqc ?_ (sqc ?_ (sqc ?_ (sqc ?_ (sqc ?_ (sqc ?_ (sqc ?_ (sqc ?_ (sqc ?_ (sqc ?_ (sqc ?_ (sqc ?_ (sqc ?_ (sqc ?_ (sqc ?_ (sqc ?_ (sqc ?_ (sqc ?_ trivial))))))))))))))))))))))))))))))))))))))))))))))))))))))))))
                            · exact zfa rfl trivial _ _ _ _ rfl rfl (fun w hw => faE3 w _ _)
                            · exact zld rfl trivial _ _ _ rfl rfl (fun w hw => load_in ((zca hw.bx 3).trans rfl))
                            · exact zmv rfl trivial _ rfl (by kernel_rfl)
                            · exact znc rfl trivial _ _ _ rfl rfl rfl
                            · exact zfa rfl trivial _ _ _ _ rfl rfl (fun w hw => faM3 w _ _)
                            · exact zld rfl trivial _ _ _ rfl rfl (fun w hw => load_in (hw.de.cn hm (j := 3) (by decide) rfl))
                            · exact zbo rfl trivial _ _ _ _ _ _ _ rfl rfl rfl (fun w hw => by rw [← h21_0]; exact bin_neq _ _ _)
                            · exact zmv rfl trivial _ rfl (by kernel_rfl)
                            · exact zfa rfl ⟨_, rfl, by kernel_rfl⟩ _ _ _ _ rfl rfl (fun w hw => faE7 w _ _)
                            · exact zld rfl ⟨_, rfl, by kernel_rfl⟩ _ _ _ rfl rfl (fun w hw => load_se (N := he) ((zca hw.bx 7).trans rfl) ((zca hw.bx 8).trans rfl) ((zca hw.bx 9).trans rfl) ((zca hw.bx 10).trans rfl))
                            · exact zmv rfl ⟨_, rfl, by kernel_rfl⟩ _ rfl (by kernel_rfl)
                            · exact znc rfl ⟨_, rfl, by kernel_rfl⟩ _ _ _ rfl rfl rfl
                            · exact zfa rfl ⟨_, rfl, by kernel_rfl⟩ _ _ _ _ rfl rfl (fun w hw => faD0 w _ _)
                            · exact zld rfl ⟨_, rfl, by kernel_rfl⟩ _ _ _ rfl rfl (fun w hw => load_in hw.de.c0)
                            · exact zsc rfl ⟨_, rfl, by kernel_rfl⟩ 18 _ _ [(sv he), (.int .i64 n)] rfl (by kernel_rfl) (enters_of Try.func18 (by kernel_rfl) rfl) (fun w hw => (rWithin_any he hhe n w).mono (by rintro e w' ⟨rfl, hb⟩; exact ⟨congrArg (fun z => Ending.returned (Value.bool z)) h21_1, hw.carry hb⟩))
                            · exact step_unOp rfl ⟨_, rfl, by kernel_rfl⟩ _ _ _ _ rfl rfl (fun w hw => rfl)
                            · exact step_pick rfl trivial _ _ _ false rfl (by kernel_rfl) (by kernel_rfl)
                            · exact zmv rfl trivial _ rfl (by kernel_rfl)
                            · exact zfa rfl ⟨_, rfl, by kernel_rfl⟩ _ _ _ _ rfl rfl (fun w hw => faE7 w _ _)
                            · exact zld rfl ⟨_, rfl, by kernel_rfl⟩ _ _ _ rfl rfl (fun w hw => load_se (N := he) ((zca hw.bx 7).trans rfl) ((zca hw.bx 8).trans rfl) ((zca hw.bx 9).trans rfl) ((zca hw.bx 10).trans rfl))
                            · exact zsc rfl ⟨_, rfl, by kernel_rfl⟩ 19 _ _ [(sv he)] rfl (by kernel_rfl) (enters_of Try.func19 (by kernel_rfl) rfl) (fun w hw => (rCount_any he w).mono (by rintro e w' ⟨rfl, hb⟩; exact ⟨rfl, hw.carry hb⟩))
                            · exact zmv rfl ⟨_, rfl, by kernel_rfl⟩ _ rfl (by kernel_rfl)
                            · exact znc rfl ⟨_, rfl, by kernel_rfl⟩ _ _ _ rfl rfl rfl
                            · exact zfa rfl ⟨_, rfl, by kernel_rfl⟩ _ _ _ _ rfl rfl (fun w hw => faD0 w _ _)
                            · exact zld rfl ⟨_, rfl, by kernel_rfl⟩ _ _ _ rfl rfl (fun w hw => load_in hw.de.c0)
                            · exact zmv rfl ⟨_, rfl, by kernel_rfl⟩ _ rfl (by kernel_rfl)
                            · exact znc rfl ⟨_, rfl, by kernel_rfl⟩ _ _ _ rfl rfl rfl
                            · exact zfa rfl ⟨_, rfl, by kernel_rfl⟩ _ _ _ _ rfl rfl (fun w hw => faD1 w _ _)
                            · exact zld rfl ⟨_, rfl, by kernel_rfl⟩ _ _ _ rfl rfl (fun w hw => load_in hw.de.c1)
                            · exact zbo rfl ⟨_, rfl, by kernel_rfl⟩ _ _ _ _ _ _ _ rfl rfl rfl (fun w hw => bin_sub64 _ _ _ (by rw [IntKind.wrap_i64]; omega))
                            · exact zbo rfl ⟨_, rfl, by kernel_rfl⟩ _ _ _ _ _ _ _ rfl rfl rfl (fun w hw => by rw [← h21_2]; exact bin_neq _ _ _)
                            · exact step_pick rfl trivial _ _ _ false rfl (by kernel_rfl) (by kernel_rfl)
                            · exact zmv rfl trivial _ rfl (by kernel_rfl)
                            · exact zfa rfl ⟨_, rfl, by kernel_rfl⟩ _ _ _ _ rfl rfl (fun w hw => faE7 w _ _)
                            · exact zld rfl ⟨_, rfl, by kernel_rfl⟩ _ _ _ rfl rfl (fun w hw => load_se (N := he) ((zca hw.bx 7).trans rfl) ((zca hw.bx 8).trans rfl) ((zca hw.bx 9).trans rfl) ((zca hw.bx 10).trans rfl))
                            · exact zfa rfl ⟨_, rfl, by kernel_rfl⟩ _ _ _ _ rfl rfl (fun w hw => faE1 w _ _)
                            · exact zld rfl ⟨_, rfl, by kernel_rfl⟩ _ _ _ rfl rfl (fun w hw => load_in ((zca hw.bx 1).trans rfl))
                            · exact zsc rfl ⟨_, rfl, by kernel_rfl⟩ 20 _ _ [(sv he), (.int .i64 nd)] rfl (by kernel_rfl) (enters_of Try.func20 (by kernel_rfl) rfl) (fun w hw => (rHas_any (he) (nd) w).mono (by rintro e w' ⟨rfl, hb⟩; exact ⟨congrArg (fun z => Ending.returned (Value.bool z)) h21_3, hw.carry hb⟩))
                            · exact step_unOp rfl ⟨_, rfl, by kernel_rfl⟩ _ _ _ _ rfl rfl (fun w hw => rfl)
                            · exact step_pick rfl trivial _ _ _ false rfl (by kernel_rfl) (by kernel_rfl)
                            · exact zmv rfl trivial _ rfl (by kernel_rfl)
                            · exact zfa rfl ⟨_, rfl, by kernel_rfl⟩ _ _ _ _ rfl rfl (fun w hw => faE8 w _ _)
                            · exact zld rfl ⟨_, rfl, by kernel_rfl⟩ _ _ _ rfl rfl (fun w hw => load_se (N := un) ((zca hw.bx 11).trans rfl) ((zca hw.bx 12).trans rfl) ((zca hw.bx 13).trans rfl) ((zca hw.bx 14).trans rfl))
                            · exact zmv rfl ⟨_, rfl, by kernel_rfl⟩ _ rfl (by kernel_rfl)
                            · exact znc rfl ⟨_, rfl, by kernel_rfl⟩ _ _ _ rfl rfl rfl
                            · exact zfa rfl ⟨_, rfl, by kernel_rfl⟩ _ _ _ _ rfl rfl (fun w hw => faD0 w _ _)
                            · exact zld rfl ⟨_, rfl, by kernel_rfl⟩ _ _ _ rfl rfl (fun w hw => load_in hw.de.c0)
                            · exact zsc rfl ⟨_, rfl, by kernel_rfl⟩ 18 _ _ [(sv un), (.int .i64 n)] rfl (by kernel_rfl) (enters_of Try.func18 (by kernel_rfl) rfl) (fun w hw => (rWithin_any un hun n w).mono (by rintro e w' ⟨rfl, hb⟩; exact ⟨congrArg (fun z => Ending.returned (Value.bool z)) h21_4, hw.carry hb⟩))
                            · exact step_unOp rfl ⟨_, rfl, by kernel_rfl⟩ _ _ _ _ rfl rfl (fun w hw => rfl)
                            · exact step_pick rfl trivial _ _ _ false rfl (by kernel_rfl) (by kernel_rfl)
                            · exact zmv rfl trivial _ rfl (by kernel_rfl)
                            · exact zsk rfl 50 false 286 (.bool true) rfl rfl (by kernel_rfl) (by intro h; cases h) rfl
                            · exact zsk rfl 50 false 286 (.bool true) rfl rfl (by kernel_rfl) (by intro h; cases h) rfl
                            · exact zsk rfl 50 false 286 (.bool true) rfl rfl (by kernel_rfl) (by intro h; cases h) rfl
                            · exact zsk rfl 50 false 286 (.bool true) rfl rfl (by kernel_rfl) (by intro h; cases h) rfl
                            · exact zsk rfl 50 false 286 (.bool true) rfl rfl (by kernel_rfl) (by intro h; cases h) rfl
                            · exact zsk rfl 50 false 286 (.bool true) rfl rfl (by kernel_rfl) (by intro h; cases h) rfl
                            · exact step_pick rfl trivial _ _ _ true rfl (by kernel_rfl) (by kernel_rfl)
                          intro W hW
                          first | refine hK _ _ ?_ | refine (‹∀ (a : Act) (w : World), Code.wp Try.prog _ _ a w → _›) _ _ ?_ | skip
                          simp only [finL, List.getD_cons_zero, List.getD_cons_succ, Nat.zero_add, Nat.reduceAdd, List.setIfInBounds_toArray, List.set_cons_zero, List.set_cons_succ]
                          go_wp2
                          go_ret
                          exact ho_no (by rw [HO2]; unfold dlw dl3; try simp only [h4_0]; try simp only [h21_0]; try simp only [h21_1]; try simp only [h21_2]; try simp only [h21_3]; try simp only [h21_4]; rfl) hW.tn
                      | false =>
                        refine wp_region_any hmx ?_
                        refine zwp (fun i__ => ([(.pointer (some ⟨w.heap.size, 3, none⟩)), (.int .i64 ro), (.pointer (some ⟨y, 2 + m * 6, none⟩)), (.pointer (some ⟨y, 2 + m * 6, none⟩)), (.pointer (some ⟨y, 2 + m * 6 + 3, none⟩)), (.int .i64 u.op), (.bool false), (.bool false), (.pointer (some ⟨w.heap.size, 7, none⟩)), (sv he), (.pointer (some ⟨y, 0, none⟩)), (.pointer (some ⟨y, 0, none⟩)), (.pointer (some ⟨y, 0, none⟩)), (.int .i64 n), (.bool true), (.bool false), (.bool false), (.bool false), (.pointer (some ⟨w.heap.size, 7, none⟩)), (sv he), (.int .i64 (((idsTo he 100).length : Nat) : Int)), (.pointer (some ⟨y, 0, none⟩)), (.pointer (some ⟨y, 0, none⟩)), (.pointer (some ⟨y, 0, none⟩)), (.int .i64 n), (.pointer (some ⟨y, 0, none⟩)), (.pointer (some ⟨y, 0, none⟩)), (.pointer (some ⟨y, 1, none⟩)), (.int .i64 f), (.int .i64 (n - f)), (.bool false), (.bool false), (.bool false), (.pointer (some ⟨w.heap.size, 7, none⟩)), (sv he), (.pointer (some ⟨w.heap.size, 1, none⟩)), (.int .i64 nd), (.bool false), (.bool true), (.bool true), (.bool true), undef, undef, undef, undef, undef, undef, undef, undef, (.bool true), (.bool true), undef, undef, undef, undef, undef, undef, (.bool true)] : List Value).getD i__ undef) (fun V => JH w y w.heap.size n f D ⟨3, nd, li, ro, ta, of, du, he, un⟩ V) (by kernel_rfl) (hJ6.carry (Below.refl _ _).drew) ?_ ?_
                        · refine (sqc ?_ (sqc ?_ (sqc ?_ (sqc ?_ (sqc ?_ (sqc ?_ (sqc ?_ (sqc ?_ (sqc ?_ (sqc ?_ (sqc ?_ (sqc ?_ (sqc ?_ (sqc ?_ (sqc ?_ (sqc ?_ (sqc ?_ (sqc ?_ (sqc ?_ (sqc ?_ (sqc ?_ (sqc ?_ (sqc ?_ (sqc ?_ (sqc ?_ (sqc ?_ (sqc ?_ (sqc ?_ (sqc ?_ (sqc ?_ (sqc ?_ (sqc ?_ (sqc ?_ (sqc ?_ (sqc ?_ (sqc ?_ (sqc ?_ (sqc ?_ (sqc ?_ (sqc ?_ (sqc ?_ (sqc ?_ (sqc ?_ (sqc ?_ (sqc ?_ (sqc ?_ (sqc ?_ (sqc ?_ (sqc ?_ (sqc ?_ (sqc ?_ (sqc ?_ (sqc ?_ (sqc ?_ (sqc ?_ (sqc ?_ (sqc ?_ (sqc ?_ trivial))))))))))))))))))))))))))))))))))))))))))))))))))))))))))
                          · exact zfa rfl trivial _ _ _ _ rfl rfl (fun w hw => faE3 w _ _)
                          · exact zld rfl trivial _ _ _ rfl rfl (fun w hw => load_in ((zca hw.bx 3).trans rfl))
                          · exact zmv rfl trivial _ rfl (by kernel_rfl)
                          · exact znc rfl trivial _ _ _ rfl rfl rfl
                          · exact zfa rfl trivial _ _ _ _ rfl rfl (fun w hw => faM3 w _ _)
                          · exact zld rfl trivial _ _ _ rfl rfl (fun w hw => load_in (hw.de.cn hm (j := 3) (by decide) rfl))
                          · exact zbo rfl trivial _ _ _ _ _ _ _ rfl rfl rfl (fun w hw => by rw [← h21_0]; exact bin_neq _ _ _)
                          · exact zmv rfl trivial _ rfl (by kernel_rfl)
                          · exact zfa rfl ⟨_, rfl, by kernel_rfl⟩ _ _ _ _ rfl rfl (fun w hw => faE7 w _ _)
                          · exact zld rfl ⟨_, rfl, by kernel_rfl⟩ _ _ _ rfl rfl (fun w hw => load_se (N := he) ((zca hw.bx 7).trans rfl) ((zca hw.bx 8).trans rfl) ((zca hw.bx 9).trans rfl) ((zca hw.bx 10).trans rfl))
                          · exact zmv rfl ⟨_, rfl, by kernel_rfl⟩ _ rfl (by kernel_rfl)
                          · exact znc rfl ⟨_, rfl, by kernel_rfl⟩ _ _ _ rfl rfl rfl
                          · exact zfa rfl ⟨_, rfl, by kernel_rfl⟩ _ _ _ _ rfl rfl (fun w hw => faD0 w _ _)
                          · exact zld rfl ⟨_, rfl, by kernel_rfl⟩ _ _ _ rfl rfl (fun w hw => load_in hw.de.c0)
                          · exact zsc rfl ⟨_, rfl, by kernel_rfl⟩ 18 _ _ [(sv he), (.int .i64 n)] rfl (by kernel_rfl) (enters_of Try.func18 (by kernel_rfl) rfl) (fun w hw => (rWithin_any he hhe n w).mono (by rintro e w' ⟨rfl, hb⟩; exact ⟨congrArg (fun z => Ending.returned (Value.bool z)) h21_1, hw.carry hb⟩))
                          · exact step_unOp rfl ⟨_, rfl, by kernel_rfl⟩ _ _ _ _ rfl rfl (fun w hw => rfl)
                          · exact step_pick rfl trivial _ _ _ false rfl (by kernel_rfl) (by kernel_rfl)
                          · exact zmv rfl trivial _ rfl (by kernel_rfl)
                          · exact zfa rfl ⟨_, rfl, by kernel_rfl⟩ _ _ _ _ rfl rfl (fun w hw => faE7 w _ _)
                          · exact zld rfl ⟨_, rfl, by kernel_rfl⟩ _ _ _ rfl rfl (fun w hw => load_se (N := he) ((zca hw.bx 7).trans rfl) ((zca hw.bx 8).trans rfl) ((zca hw.bx 9).trans rfl) ((zca hw.bx 10).trans rfl))
                          · exact zsc rfl ⟨_, rfl, by kernel_rfl⟩ 19 _ _ [(sv he)] rfl (by kernel_rfl) (enters_of Try.func19 (by kernel_rfl) rfl) (fun w hw => (rCount_any he w).mono (by rintro e w' ⟨rfl, hb⟩; exact ⟨rfl, hw.carry hb⟩))
                          · exact zmv rfl ⟨_, rfl, by kernel_rfl⟩ _ rfl (by kernel_rfl)
                          · exact znc rfl ⟨_, rfl, by kernel_rfl⟩ _ _ _ rfl rfl rfl
                          · exact zfa rfl ⟨_, rfl, by kernel_rfl⟩ _ _ _ _ rfl rfl (fun w hw => faD0 w _ _)
                          · exact zld rfl ⟨_, rfl, by kernel_rfl⟩ _ _ _ rfl rfl (fun w hw => load_in hw.de.c0)
                          · exact zmv rfl ⟨_, rfl, by kernel_rfl⟩ _ rfl (by kernel_rfl)
                          · exact znc rfl ⟨_, rfl, by kernel_rfl⟩ _ _ _ rfl rfl rfl
                          · exact zfa rfl ⟨_, rfl, by kernel_rfl⟩ _ _ _ _ rfl rfl (fun w hw => faD1 w _ _)
                          · exact zld rfl ⟨_, rfl, by kernel_rfl⟩ _ _ _ rfl rfl (fun w hw => load_in hw.de.c1)
                          · exact zbo rfl ⟨_, rfl, by kernel_rfl⟩ _ _ _ _ _ _ _ rfl rfl rfl (fun w hw => bin_sub64 _ _ _ (by rw [IntKind.wrap_i64]; omega))
                          · exact zbo rfl ⟨_, rfl, by kernel_rfl⟩ _ _ _ _ _ _ _ rfl rfl rfl (fun w hw => by rw [← h21_2]; exact bin_neq _ _ _)
                          · exact step_pick rfl trivial _ _ _ false rfl (by kernel_rfl) (by kernel_rfl)
                          · exact zmv rfl trivial _ rfl (by kernel_rfl)
                          · exact zfa rfl ⟨_, rfl, by kernel_rfl⟩ _ _ _ _ rfl rfl (fun w hw => faE7 w _ _)
                          · exact zld rfl ⟨_, rfl, by kernel_rfl⟩ _ _ _ rfl rfl (fun w hw => load_se (N := he) ((zca hw.bx 7).trans rfl) ((zca hw.bx 8).trans rfl) ((zca hw.bx 9).trans rfl) ((zca hw.bx 10).trans rfl))
                          · exact zfa rfl ⟨_, rfl, by kernel_rfl⟩ _ _ _ _ rfl rfl (fun w hw => faE1 w _ _)
                          · exact zld rfl ⟨_, rfl, by kernel_rfl⟩ _ _ _ rfl rfl (fun w hw => load_in ((zca hw.bx 1).trans rfl))
                          · exact zsc rfl ⟨_, rfl, by kernel_rfl⟩ 20 _ _ [(sv he), (.int .i64 nd)] rfl (by kernel_rfl) (enters_of Try.func20 (by kernel_rfl) rfl) (fun w hw => (rHas_any (he) (nd) w).mono (by rintro e w' ⟨rfl, hb⟩; exact ⟨congrArg (fun z => Ending.returned (Value.bool z)) h21_3, hw.carry hb⟩))
                          · exact step_unOp rfl ⟨_, rfl, by kernel_rfl⟩ _ _ _ _ rfl rfl (fun w hw => rfl)
                          · exact step_pick rfl trivial _ _ _ false rfl (by kernel_rfl) (by kernel_rfl)
                          · exact zmv rfl trivial _ rfl (by kernel_rfl)
                          · exact zsk rfl 40 false 276 (.bool true) rfl rfl (by kernel_rfl) (by intro h; cases h) rfl
                          · exact zsk rfl 40 false 276 (.bool true) rfl rfl (by kernel_rfl) (by intro h; cases h) rfl
                          · exact zsk rfl 40 false 276 (.bool true) rfl rfl (by kernel_rfl) (by intro h; cases h) rfl
                          · exact zsk rfl 40 false 276 (.bool true) rfl rfl (by kernel_rfl) (by intro h; cases h) rfl
                          · exact zsk rfl 40 false 276 (.bool true) rfl rfl (by kernel_rfl) (by intro h; cases h) rfl
                          · exact zsk rfl 40 false 276 (.bool true) rfl rfl (by kernel_rfl) (by intro h; cases h) rfl
                          · exact zsk rfl 40 false 276 (.bool true) rfl rfl (by kernel_rfl) (by intro h; cases h) rfl
                          · exact zsk rfl 40 false 276 (.bool true) rfl rfl (by kernel_rfl) (by intro h; cases h) rfl
                          · exact step_pick rfl trivial _ _ _ true rfl (by kernel_rfl) (by kernel_rfl)
                          · exact zmv rfl trivial _ rfl (by kernel_rfl)
                          · exact zsk rfl 50 false 286 (.bool true) rfl rfl (by kernel_rfl) (by intro h; cases h) rfl
                          · exact zsk rfl 50 false 286 (.bool true) rfl rfl (by kernel_rfl) (by intro h; cases h) rfl
                          · exact zsk rfl 50 false 286 (.bool true) rfl rfl (by kernel_rfl) (by intro h; cases h) rfl
                          · exact zsk rfl 50 false 286 (.bool true) rfl rfl (by kernel_rfl) (by intro h; cases h) rfl
                          · exact zsk rfl 50 false 286 (.bool true) rfl rfl (by kernel_rfl) (by intro h; cases h) rfl
                          · exact zsk rfl 50 false 286 (.bool true) rfl rfl (by kernel_rfl) (by intro h; cases h) rfl
                          · exact step_pick rfl trivial _ _ _ true rfl (by kernel_rfl) (by kernel_rfl)
                        intro W hW
                        first | refine hK _ _ ?_ | refine (‹∀ (a : Act) (w : World), Code.wp Try.prog _ _ a w → _›) _ _ ?_ | skip
                        simp only [finL, List.getD_cons_zero, List.getD_cons_succ, Nat.zero_add, Nat.reduceAdd, List.setIfInBounds_toArray, List.set_cons_zero, List.set_cons_succ]
                        go_wp2
                        go_ret
                        exact ho_no (by rw [HO2]; unfold dlw dl3; try simp only [h4_0]; try simp only [h21_0]; try simp only [h21_1]; try simp only [h21_2]; try simp only [h21_3]; rfl) hW.tn
                  | false =>
                    refine wp_region_any hmx ?_
                    refine zwp (fun i__ => ([(.pointer (some ⟨w.heap.size, 3, none⟩)), (.int .i64 ro), (.pointer (some ⟨y, 2 + m * 6, none⟩)), (.pointer (some ⟨y, 2 + m * 6, none⟩)), (.pointer (some ⟨y, 2 + m * 6 + 3, none⟩)), (.int .i64 u.op), (.bool false), (.bool false), (.pointer (some ⟨w.heap.size, 7, none⟩)), (sv he), (.pointer (some ⟨y, 0, none⟩)), (.pointer (some ⟨y, 0, none⟩)), (.pointer (some ⟨y, 0, none⟩)), (.int .i64 n), (.bool false), (.bool true), (.bool true), (.bool true), undef, undef, undef, undef, undef, undef, undef, undef, undef, undef, undef, undef, undef, (.bool true), (.bool true), undef, undef, undef, undef, undef, undef, (.bool true), (.bool true), undef, undef, undef, undef, undef, undef, undef, undef, (.bool true), (.bool true), undef, undef, undef, undef, undef, undef, (.bool true)] : List Value).getD i__ undef) (fun V => JH w y w.heap.size n f D ⟨3, nd, li, ro, ta, of, du, he, un⟩ V) (by kernel_rfl) (hJ6.carry (Below.refl _ _).drew) ?_ ?_
                    · refine (sqc ?_ (sqc ?_ (sqc ?_ (sqc ?_ (sqc ?_ (sqc ?_ (sqc ?_ (sqc ?_ (sqc ?_ (sqc ?_ (sqc ?_ (sqc ?_ (sqc ?_ (sqc ?_ (sqc ?_ (sqc ?_ (sqc ?_ (sqc ?_ (sqc ?_ (sqc ?_ (sqc ?_ (sqc ?_ (sqc ?_ (sqc ?_ (sqc ?_ (sqc ?_ (sqc ?_ (sqc ?_ (sqc ?_ (sqc ?_ (sqc ?_ (sqc ?_ (sqc ?_ (sqc ?_ (sqc ?_ (sqc ?_ (sqc ?_ (sqc ?_ (sqc ?_ (sqc ?_ (sqc ?_ (sqc ?_ (sqc ?_ (sqc ?_ (sqc ?_ (sqc ?_ (sqc ?_ (sqc ?_ (sqc ?_ (sqc ?_ (sqc ?_ (sqc ?_ (sqc ?_ (sqc ?_ (sqc ?_ (sqc ?_ (sqc ?_ (sqc ?_ trivial))))))))))))))))))))))))))))))))))))))))))))))))))))))))))
                      · exact zfa rfl trivial _ _ _ _ rfl rfl (fun w hw => faE3 w _ _)
                      · exact zld rfl trivial _ _ _ rfl rfl (fun w hw => load_in ((zca hw.bx 3).trans rfl))
                      · exact zmv rfl trivial _ rfl (by kernel_rfl)
                      · exact znc rfl trivial _ _ _ rfl rfl rfl
                      · exact zfa rfl trivial _ _ _ _ rfl rfl (fun w hw => faM3 w _ _)
                      · exact zld rfl trivial _ _ _ rfl rfl (fun w hw => load_in (hw.de.cn hm (j := 3) (by decide) rfl))
                      · exact zbo rfl trivial _ _ _ _ _ _ _ rfl rfl rfl (fun w hw => by rw [← h21_0]; exact bin_neq _ _ _)
                      · exact zmv rfl trivial _ rfl (by kernel_rfl)
                      · exact zfa rfl ⟨_, rfl, by kernel_rfl⟩ _ _ _ _ rfl rfl (fun w hw => faE7 w _ _)
                      · exact zld rfl ⟨_, rfl, by kernel_rfl⟩ _ _ _ rfl rfl (fun w hw => load_se (N := he) ((zca hw.bx 7).trans rfl) ((zca hw.bx 8).trans rfl) ((zca hw.bx 9).trans rfl) ((zca hw.bx 10).trans rfl))
                      · exact zmv rfl ⟨_, rfl, by kernel_rfl⟩ _ rfl (by kernel_rfl)
                      · exact znc rfl ⟨_, rfl, by kernel_rfl⟩ _ _ _ rfl rfl rfl
                      · exact zfa rfl ⟨_, rfl, by kernel_rfl⟩ _ _ _ _ rfl rfl (fun w hw => faD0 w _ _)
                      · exact zld rfl ⟨_, rfl, by kernel_rfl⟩ _ _ _ rfl rfl (fun w hw => load_in hw.de.c0)
                      · exact zsc rfl ⟨_, rfl, by kernel_rfl⟩ 18 _ _ [(sv he), (.int .i64 n)] rfl (by kernel_rfl) (enters_of Try.func18 (by kernel_rfl) rfl) (fun w hw => (rWithin_any he hhe n w).mono (by rintro e w' ⟨rfl, hb⟩; exact ⟨congrArg (fun z => Ending.returned (Value.bool z)) h21_1, hw.carry hb⟩))
                      · exact step_unOp rfl ⟨_, rfl, by kernel_rfl⟩ _ _ _ _ rfl rfl (fun w hw => rfl)
                      · exact step_pick rfl trivial _ _ _ false rfl (by kernel_rfl) (by kernel_rfl)
                      · exact zmv rfl trivial _ rfl (by kernel_rfl)
                      · exact zsk rfl 17 false 253 (.bool true) rfl rfl (by kernel_rfl) (by intro h; cases h) rfl
                      · exact zsk rfl 17 false 253 (.bool true) rfl rfl (by kernel_rfl) (by intro h; cases h) rfl
                      · exact zsk rfl 17 false 253 (.bool true) rfl rfl (by kernel_rfl) (by intro h; cases h) rfl
                      · exact zsk rfl 17 false 253 (.bool true) rfl rfl (by kernel_rfl) (by intro h; cases h) rfl
                      · exact zsk rfl 17 false 253 (.bool true) rfl rfl (by kernel_rfl) (by intro h; cases h) rfl
                      · exact zsk rfl 17 false 253 (.bool true) rfl rfl (by kernel_rfl) (by intro h; cases h) rfl
                      · exact zsk rfl 17 false 253 (.bool true) rfl rfl (by kernel_rfl) (by intro h; cases h) rfl
                      · exact zsk rfl 17 false 253 (.bool true) rfl rfl (by kernel_rfl) (by intro h; cases h) rfl
                      · exact zsk rfl 17 false 253 (.bool true) rfl rfl (by kernel_rfl) (by intro h; cases h) rfl
                      · exact zsk rfl 17 false 253 (.bool true) rfl rfl (by kernel_rfl) (by intro h; cases h) rfl
                      · exact zsk rfl 17 false 253 (.bool true) rfl rfl (by kernel_rfl) (by intro h; cases h) rfl
                      · exact zsk rfl 17 false 253 (.bool true) rfl rfl (by kernel_rfl) (by intro h; cases h) rfl
                      · exact zsk rfl 17 false 253 (.bool true) rfl rfl (by kernel_rfl) (by intro h; cases h) rfl
                      · exact step_pick rfl trivial _ _ _ true rfl (by kernel_rfl) (by kernel_rfl)
                      · exact zmv rfl trivial _ rfl (by kernel_rfl)
                      · exact zsk rfl 32 false 268 (.bool true) rfl rfl (by kernel_rfl) (by intro h; cases h) rfl
                      · exact zsk rfl 32 false 268 (.bool true) rfl rfl (by kernel_rfl) (by intro h; cases h) rfl
                      · exact zsk rfl 32 false 268 (.bool true) rfl rfl (by kernel_rfl) (by intro h; cases h) rfl
                      · exact zsk rfl 32 false 268 (.bool true) rfl rfl (by kernel_rfl) (by intro h; cases h) rfl
                      · exact zsk rfl 32 false 268 (.bool true) rfl rfl (by kernel_rfl) (by intro h; cases h) rfl
                      · exact zsk rfl 32 false 268 (.bool true) rfl rfl (by kernel_rfl) (by intro h; cases h) rfl
                      · exact step_pick rfl trivial _ _ _ true rfl (by kernel_rfl) (by kernel_rfl)
                      · exact zmv rfl trivial _ rfl (by kernel_rfl)
                      · exact zsk rfl 40 false 276 (.bool true) rfl rfl (by kernel_rfl) (by intro h; cases h) rfl
                      · exact zsk rfl 40 false 276 (.bool true) rfl rfl (by kernel_rfl) (by intro h; cases h) rfl
                      · exact zsk rfl 40 false 276 (.bool true) rfl rfl (by kernel_rfl) (by intro h; cases h) rfl
                      · exact zsk rfl 40 false 276 (.bool true) rfl rfl (by kernel_rfl) (by intro h; cases h) rfl
                      · exact zsk rfl 40 false 276 (.bool true) rfl rfl (by kernel_rfl) (by intro h; cases h) rfl
                      · exact zsk rfl 40 false 276 (.bool true) rfl rfl (by kernel_rfl) (by intro h; cases h) rfl
                      · exact zsk rfl 40 false 276 (.bool true) rfl rfl (by kernel_rfl) (by intro h; cases h) rfl
                      · exact zsk rfl 40 false 276 (.bool true) rfl rfl (by kernel_rfl) (by intro h; cases h) rfl
                      · exact step_pick rfl trivial _ _ _ true rfl (by kernel_rfl) (by kernel_rfl)
                      · exact zmv rfl trivial _ rfl (by kernel_rfl)
                      · exact zsk rfl 50 false 286 (.bool true) rfl rfl (by kernel_rfl) (by intro h; cases h) rfl
                      · exact zsk rfl 50 false 286 (.bool true) rfl rfl (by kernel_rfl) (by intro h; cases h) rfl
                      · exact zsk rfl 50 false 286 (.bool true) rfl rfl (by kernel_rfl) (by intro h; cases h) rfl
                      · exact zsk rfl 50 false 286 (.bool true) rfl rfl (by kernel_rfl) (by intro h; cases h) rfl
                      · exact zsk rfl 50 false 286 (.bool true) rfl rfl (by kernel_rfl) (by intro h; cases h) rfl
                      · exact zsk rfl 50 false 286 (.bool true) rfl rfl (by kernel_rfl) (by intro h; cases h) rfl
                      · exact step_pick rfl trivial _ _ _ true rfl (by kernel_rfl) (by kernel_rfl)
                    intro W hW
                    first | refine hK _ _ ?_ | refine (‹∀ (a : Act) (w : World), Code.wp Try.prog _ _ a w → _›) _ _ ?_ | skip
                    simp only [finL, List.getD_cons_zero, List.getD_cons_succ, Nat.zero_add, Nat.reduceAdd, List.setIfInBounds_toArray, List.set_cons_zero, List.set_cons_succ]
                    go_wp2
                    go_ret
                    exact ho_no (by rw [HO2]; unfold dlw dl3; try simp only [h4_0]; try simp only [h21_0]; try simp only [h21_1]; rfl) hW.tn
            | false =>
              refine wp_region_any hmx ?_
              refine zwp (fun i__ => ([(.pointer (some ⟨w.heap.size, 0, none⟩)), (.int .i64 3), (.bool true), (.bool true), (.pointer (some ⟨y, 2 + m * 6, none⟩)), (.pointer (some ⟨y, 2 + m * 6, none⟩)), (.pointer (some ⟨y, 2 + m * 6, none⟩)), (.bool false), (.bool true), (.bool true), undef, undef, undef, undef, undef, undef, undef, (.bool true), (.bool true)] : List Value).getD i__ undef) (fun V => JH w y w.heap.size n f D ⟨3, nd, li, ro, ta, of, du, he, un⟩ V) (by kernel_rfl) (hJ4.carry (Below.refl _ _).drew) ?_ ?_
              · refine (sqc ?_ (sqc ?_ (sqc ?_ (sqc ?_ (sqc ?_ (sqc ?_ (sqc ?_ (sqc ?_ (sqc ?_ (sqc ?_ (sqc ?_ (sqc ?_ (sqc ?_ (sqc ?_ (sqc ?_ (sqc ?_ (sqc ?_ (sqc ?_ (sqc ?_ trivial)))))))))))))))))))
                · exact zfa rfl trivial _ _ _ _ rfl rfl (fun w hw => faE0 w _ _)
                · exact zld rfl trivial _ _ _ rfl rfl (fun w hw => load_in ((zca hw.bx 0).trans rfl))
                · exact zbo rfl trivial _ _ _ _ _ _ _ rfl rfl rfl (fun w hw => bin_neq _ _ _)
                · exact zmv rfl trivial _ rfl (by kernel_rfl)
                · exact zmv rfl ⟨_, rfl, by kernel_rfl⟩ _ rfl (by kernel_rfl)
                · exact znc rfl ⟨_, rfl, by kernel_rfl⟩ _ _ _ rfl rfl rfl
                · exact zfa rfl ⟨_, rfl, by kernel_rfl⟩ _ _ _ _ rfl rfl (fun w hw => faM0 w _ _)
                · exact zld rfl ⟨_, rfl, by kernel_rfl⟩ _ _ _ rfl rfl (fun w hw => by rw [← h6_0]; exact load_bo (hw.de.cn hm (j := 0) (by decide) rfl))
                · exact step_unOp rfl ⟨_, rfl, by kernel_rfl⟩ _ _ _ _ rfl rfl (fun w hw => rfl)
                · exact zmv rfl ⟨_, rfl, by kernel_rfl⟩ _ rfl (by kernel_rfl)
                · exact zsk rfl 9 false 94 (.bool true) rfl rfl (by kernel_rfl) (by intro h; cases h) rfl
                · exact zsk rfl 9 false 94 (.bool true) rfl rfl (by kernel_rfl) (by intro h; cases h) rfl
                · exact zsk rfl 9 false 94 (.bool true) rfl rfl (by kernel_rfl) (by intro h; cases h) rfl
                · exact zsk rfl 9 false 94 (.bool true) rfl rfl (by kernel_rfl) (by intro h; cases h) rfl
                · exact zsk rfl 9 false 94 (.bool true) rfl rfl (by kernel_rfl) (by intro h; cases h) rfl
                · exact zsk rfl 9 false 94 (.bool true) rfl rfl (by kernel_rfl) (by intro h; cases h) rfl
                · exact zsk rfl 9 false 94 (.bool true) rfl rfl (by kernel_rfl) (by intro h; cases h) rfl
                · exact step_pick rfl ⟨_, rfl, by kernel_rfl⟩ _ _ _ true rfl (by kernel_rfl) (by kernel_rfl)
                · exact step_pick rfl trivial _ _ _ true rfl (by kernel_rfl) (by kernel_rfl)
              intro W hW
              first | refine hK _ _ ?_ | refine (‹∀ (a : Act) (w : World), Code.wp Try.prog _ _ a w → _›) _ _ ?_ | skip
              simp only [finL, List.getD_cons_zero, List.getD_cons_succ, Nat.zero_add, Nat.reduceAdd, List.setIfInBounds_toArray, List.set_cons_zero, List.set_cons_succ]
              go_wp2
              go_ret
              exact ho_no (by rw [HO]; unfold upbad; try simp only [h6_0]; rfl) hW.tn
        | false =>
          refine wp_region_any hmx ?_
          refine zwp (fun i__ => ([(.pointer (some ⟨w.heap.size, 0, none⟩)), (.int .i64 3), (.bool false), (.bool false), (.pointer (some ⟨w.heap.size, 0, none⟩)), (.int .i64 3), (.bool false), (.bool false), (.bool false), (.pointer (some ⟨w.heap.size, 1, none⟩)), (.int .i64 nd), (.bool false), (.bool false), (.bool false), (.pointer (some ⟨w.heap.size, 1, none⟩)), (.int .i64 nd), (.pointer (some ⟨y, 0, none⟩)), (.pointer (some ⟨y, 0, none⟩)), (.pointer (some ⟨y, 0, none⟩)), (.int .i64 n), (.bool false), (.bool false), (.bool false), (.pointer (some ⟨w.heap.size, 2, none⟩)), (.int .i64 li), (.bool false), (.bool false), (.bool false), (.pointer (some ⟨w.heap.size, 2, none⟩)), (.int .i64 li), (.bool false), (.bool false), (.bool false), (evV ⟨3, nd, li, ro, ta, of, du, he, un⟩), (.bool false), (.bool true), (.bool true)] : List Value).getD i__ undef) (fun V => JH w y w.heap.size n f D ⟨3, nd, li, ro, ta, of, du, he, un⟩ V) (by kernel_rfl) (hJ0.carry (Below.refl _ _).drew) ?_ ?_
          · refine (sqc ?_ (sqc ?_ (sqc ?_ (sqc ?_ (sqc ?_ (sqc ?_ (sqc ?_ (sqc ?_ (sqc ?_ (sqc ?_ (sqc ?_ (sqc ?_ (sqc ?_ (sqc ?_ (sqc ?_ (sqc ?_ (sqc ?_ (sqc ?_ (sqc ?_ (sqc ?_ (sqc ?_ (sqc ?_ (sqc ?_ (sqc ?_ (sqc ?_ (sqc ?_ (sqc ?_ (sqc ?_ (sqc ?_ (sqc ?_ (sqc ?_ (sqc ?_ (sqc ?_ (sqc ?_ (sqc ?_ (sqc ?_ (sqc ?_ trivial)))))))))))))))))))))))))))))))))))))
            · exact zfa rfl trivial _ _ _ _ rfl rfl (fun w hw => faE0 w _ _)
            · exact zld rfl trivial _ _ _ rfl rfl (fun w hw => load_in ((zca hw.bx 0).trans rfl))
            · exact zbo rfl trivial _ _ _ _ _ _ _ rfl rfl rfl (fun w hw => bin_lss _ _ _)
            · exact zmv rfl trivial _ rfl (by kernel_rfl)
            · exact zfa rfl ⟨_, rfl, by kernel_rfl⟩ _ _ _ _ rfl rfl (fun w hw => faE0 w _ _)
            · exact zld rfl ⟨_, rfl, by kernel_rfl⟩ _ _ _ rfl rfl (fun w hw => load_in ((zca hw.bx 0).trans rfl))
            · exact zbo rfl ⟨_, rfl, by kernel_rfl⟩ _ _ _ _ _ _ _ rfl rfl rfl (fun w hw => bin_gtr _ _ _)
            · exact step_pick rfl trivial _ _ _ false rfl (by kernel_rfl) (by kernel_rfl)
            · exact zmv rfl trivial _ rfl (by kernel_rfl)
            · exact zfa rfl ⟨_, rfl, by kernel_rfl⟩ _ _ _ _ rfl rfl (fun w hw => faE1 w _ _)
            · exact zld rfl ⟨_, rfl, by kernel_rfl⟩ _ _ _ rfl rfl (fun w hw => load_in ((zca hw.bx 1).trans rfl))
            · exact zbo rfl ⟨_, rfl, by kernel_rfl⟩ _ _ _ _ _ _ _ rfl rfl rfl (fun w hw => by rw [← h1_0]; exact bin_lss _ _ _)
            · exact step_pick rfl trivial _ _ _ false rfl (by kernel_rfl) (by kernel_rfl)
            · exact zmv rfl trivial _ rfl (by kernel_rfl)
            · exact zfa rfl ⟨_, rfl, by kernel_rfl⟩ _ _ _ _ rfl rfl (fun w hw => faE1 w _ _)
            · exact zld rfl ⟨_, rfl, by kernel_rfl⟩ _ _ _ rfl rfl (fun w hw => load_in ((zca hw.bx 1).trans rfl))
            · exact zmv rfl ⟨_, rfl, by kernel_rfl⟩ _ rfl (by kernel_rfl)
            · exact znc rfl ⟨_, rfl, by kernel_rfl⟩ _ _ _ rfl rfl rfl
            · exact zfa rfl ⟨_, rfl, by kernel_rfl⟩ _ _ _ _ rfl rfl (fun w hw => faD0 w _ _)
            · exact zld rfl ⟨_, rfl, by kernel_rfl⟩ _ _ _ rfl rfl (fun w hw => load_in hw.de.c0)
            · exact zbo rfl ⟨_, rfl, by kernel_rfl⟩ _ _ _ _ _ _ _ rfl rfl rfl (fun w hw => by rw [← h1_1]; exact bin_geq _ _ _)
            · exact step_pick rfl trivial _ _ _ false rfl (by kernel_rfl) (by kernel_rfl)
            · exact zmv rfl trivial _ rfl (by kernel_rfl)
            · exact zfa rfl ⟨_, rfl, by kernel_rfl⟩ _ _ _ _ rfl rfl (fun w hw => faE2 w _ _)
            · exact zld rfl ⟨_, rfl, by kernel_rfl⟩ _ _ _ rfl rfl (fun w hw => load_in ((zca hw.bx 2).trans rfl))
            · exact zbo rfl ⟨_, rfl, by kernel_rfl⟩ _ _ _ _ _ _ _ rfl rfl rfl (fun w hw => by rw [← h1_2]; exact bin_lss _ _ _)
            · exact step_pick rfl trivial _ _ _ false rfl (by kernel_rfl) (by kernel_rfl)
            · exact zmv rfl trivial _ rfl (by kernel_rfl)
            · exact zfa rfl ⟨_, rfl, by kernel_rfl⟩ _ _ _ _ rfl rfl (fun w hw => faE2 w _ _)
            · exact zld rfl ⟨_, rfl, by kernel_rfl⟩ _ _ _ rfl rfl (fun w hw => load_in ((zca hw.bx 2).trans rfl))
            · exact zbo rfl ⟨_, rfl, by kernel_rfl⟩ _ _ _ _ _ _ _ rfl rfl rfl (fun w hw => by rw [← h1_3]; exact bin_gtr _ _ _)
            · exact step_pick rfl trivial _ _ _ false rfl (by kernel_rfl) (by kernel_rfl)
            · exact zmv rfl trivial _ rfl (by kernel_rfl)
            · exact zld rfl ⟨_, rfl, by kernel_rfl⟩ _ _ _ rfl rfl (fun w hw => load_bx hw.bx)
            · exact zsc rfl ⟨_, rfl, by kernel_rfl⟩ 17 _ _ [(evV ⟨3, nd, li, ro, ta, of, du, he, un⟩)] rfl (by kernel_rfl) (enters_of Try.func17 (by kernel_rfl) rfl) (fun w hw => (rbare_any ⟨3, nd, li, ro, ta, of, du, he, un⟩ hhe hun w).mono (by rintro e w' ⟨rfl, hb⟩; exact ⟨congrArg (fun z => Ending.returned (Value.bool z)) h1_4, hw.carry hb⟩))
            · exact step_unOp rfl ⟨_, rfl, by kernel_rfl⟩ _ _ _ _ rfl rfl (fun w hw => rfl)
            · exact step_pick rfl trivial _ _ _ false rfl (by kernel_rfl) (by kernel_rfl)
          intro W hW
          first | refine hK _ _ ?_ | refine (‹∀ (a : Act) (w : World), Code.wp Try.prog _ _ a w → _›) _ _ ?_ | skip
          simp only [finL, List.getD_cons_zero, List.getD_cons_succ, Nat.zero_add, Nat.reduceAdd, List.setIfInBounds_toArray, List.set_cons_zero, List.set_cons_succ]
          go_wp2
          go_ret
          exact ho_no (by unfold hold dpre; try simp only [h1_0]; try simp only [h1_1]; try simp only [h1_2]; try simp only [h1_3]; try simp only [h1_4]; rfl) hW.tn
end Go.Proofs.Ytifcnnonnocmmaa
