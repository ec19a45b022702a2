import Derived.Test.YtifcnnonnocmmaaJnJ15
set_option maxHeartbeats 40000000
set_option maxRecDepth 100000
set_option linter.unusedVariables false
namespace Go.Proofs.Ytifcnnonnocmmaa
open Go.RowKit Go.Shelf Go.Lib
attribute [local go_sem] Oper.semAt_some
theorem hold_2 {w : World} {y : Nat} {n f : Int} {D : Ds} (h : De w y n f D) (hn : 1 ≤ n ∧ n ≤ 100) (_hf : 0 ≤ f ∧ f < n) (nd li ro ta of du : Int) (he un : Nat) (hhe : he < S128) (hun : un < S128) : Calls Try.prog 12 #[.pointer (some ⟨y, 0, none⟩), evV ⟨2, nd, li, ro, ta, of, du, he, un⟩] w (Ho y n f w (hold n f D ⟨2, nd, li, ro, ta, of, du, he, un⟩)) := by
 have hmx : Try.prog.follows .mixedOrders = true := by kernel_rfl
 have hJ0 := JH.new h ⟨2, nd, li, ro, ta, of, du, he, un⟩
 unfold evV ecA
 go_enter Try.func12, Try.ntmps12
 go_wp2
 cases h1_0 : decide (nd < 0) with
 | true =>
  refine wp_region_any hmx ?_
  refine zwp (fun i__ => ([(.pointer (some ⟨w.heap.size, 0, none⟩)), (.int .i64 2), (.bool false), (.bool false), (.pointer (some ⟨w.heap.size, 0, none⟩)), (.int .i64 2), (.bool false), (.bool false), (.bool false), (.pointer (some ⟨w.heap.size, 1, none⟩)), (.int .i64 nd), (.bool true), (.bool true), (.bool true), undef, undef, undef, undef, undef, undef, undef, (.bool true), (.bool true), undef, undef, undef, (.bool true), (.bool true), undef, undef, undef, (.bool true), (.bool true), undef, undef, undef, (.bool true)] : List Value).getD i__ undef) (fun V => JH w y w.heap.size n f D ⟨2, nd, li, ro, ta, of, du, he, un⟩ V) (by kernel_rfl) (hJ0.carry (Below.refl _ _).drew) ?_ ?_
  · refine (sqc ?_ (sqc ?_ (sqc ?_ (sqc ?_ (sqc ?_ (sqc ?_ (sqc ?_ (sqc ?_ (sqc ?_ (sqc ?_ (sqc ?_ (sqc ?_ (sqc ?_ (sqc ?_ (sqc ?_ (sqc ?_ (sqc ?_ (sqc ?_ (sqc ?_ (sqc ?_ (sqc ?_ (sqc ?_ (sqc ?_ (sqc ?_ (sqc ?_ (sqc ?_ (sqc ?_ (sqc ?_ (sqc ?_ (sqc ?_ (sqc ?_ (sqc ?_ (sqc ?_ (sqc ?_ (sqc ?_ (sqc ?_ (sqc ?_ trivial)))))))))))))))))))))))))))))))))))))
    · exact zfa rfl trivial _ _ _ _ rfl rfl (fun w hw => faE0 w _ _)
    · exact zld rfl trivial _ _ _ rfl rfl (fun w hw => load_in ((zca hw.bx 0).trans rfl))
    · exact zbo rfl trivial _ _ _ _ _ _ _ rfl rfl rfl (fun w hw => bin_lss _ _ _)
    · exact zmv rfl trivial _ rfl (by kernel_rfl)
    · exact zfa rfl ⟨_, rfl, by kernel_rfl⟩ _ _ _ _ rfl rfl (fun w hw => faE0 w _ _)
    · exact zld rfl ⟨_, rfl, by kernel_rfl⟩ _ _ _ rfl rfl (fun w hw => load_in ((zca hw.bx 0).trans rfl))
    · exact zbo rfl ⟨_, rfl, by kernel_rfl⟩ _ _ _ _ _ _ _ rfl rfl rfl (fun w hw => bin_gtr _ _ _)
    · exact step_pick rfl trivial _ _ _ false rfl (by kernel_rfl) (by kernel_rfl)
    · exact zmv rfl trivial _ rfl (by kernel_rfl)
    · exact zfa rfl ⟨_, rfl, by kernel_rfl⟩ _ _ _ _ rfl rfl (fun w hw => faE1 w _ _)
    · exact zld rfl ⟨_, rfl, by kernel_rfl⟩ _ _ _ rfl rfl (fun w hw => load_in ((zca hw.bx 1).trans rfl))
    · exact zbo rfl ⟨_, rfl, by kernel_rfl⟩ _ _ _ _ _ _ _ rfl rfl rfl (fun w hw => by rw [← h1_0]; exact bin_lss _ _ _)
    · exact step_pick rfl trivial _ _ _ false rfl (by kernel_rfl) (by kernel_rfl)
    · exact zmv rfl trivial _ rfl (by kernel_rfl)
    · exact zsk rfl 13 false 19 (.bool true) rfl rfl (by kernel_rfl) (by intro h; cases h) rfl
    · exact zsk rfl 13 false 19 (.bool true) rfl rfl (by kernel_rfl) (by intro h; cases h) rfl
    · exact zsk rfl 13 false 19 (.bool true) rfl rfl (by kernel_rfl) (by intro h; cases h) rfl
    · exact zsk rfl 13 false 19 (.bool true) rfl rfl (by kernel_rfl) (by intro h; cases h) rfl
    · exact zsk rfl 13 false 19 (.bool true) rfl rfl (by kernel_rfl) (by intro h; cases h) rfl
    · exact zsk rfl 13 false 19 (.bool true) rfl rfl (by kernel_rfl) (by intro h; cases h) rfl
    · exact zsk rfl 13 false 19 (.bool true) rfl rfl (by kernel_rfl) (by intro h; cases h) rfl
    · exact step_pick rfl trivial _ _ _ true rfl (by kernel_rfl) (by kernel_rfl)
    · exact zmv rfl trivial _ rfl (by kernel_rfl)
    · exact zsk rfl 22 false 28 (.bool true) rfl rfl (by kernel_rfl) (by intro h; cases h) rfl
    · exact zsk rfl 22 false 28 (.bool true) rfl rfl (by kernel_rfl) (by intro h; cases h) rfl
    · exact zsk rfl 22 false 28 (.bool true) rfl rfl (by kernel_rfl) (by intro h; cases h) rfl
    · exact step_pick rfl trivial _ _ _ true rfl (by kernel_rfl) (by kernel_rfl)
    · exact zmv rfl trivial _ rfl (by kernel_rfl)
    · exact zsk rfl 27 false 33 (.bool true) rfl rfl (by kernel_rfl) (by intro h; cases h) rfl
    · exact zsk rfl 27 false 33 (.bool true) rfl rfl (by kernel_rfl) (by intro h; cases h) rfl
    · exact zsk rfl 27 false 33 (.bool true) rfl rfl (by kernel_rfl) (by intro h; cases h) rfl
    · exact step_pick rfl trivial _ _ _ true rfl (by kernel_rfl) (by kernel_rfl)
    · exact zmv rfl trivial _ rfl (by kernel_rfl)
    · exact zsk rfl 32 false 38 (.bool true) rfl rfl (by kernel_rfl) (by intro h; cases h) rfl
    · exact zsk rfl 32 false 38 (.bool true) rfl rfl (by kernel_rfl) (by intro h; cases h) rfl
    · exact zsk rfl 32 false 38 (.bool true) rfl rfl (by kernel_rfl) (by intro h; cases h) rfl
    · exact step_pick rfl trivial _ _ _ true rfl (by kernel_rfl) (by kernel_rfl)
  intro W hW
  first | refine hK _ _ ?_ | refine (‹∀ (a : Act) (w : World), Code.wp Try.prog _ _ a w → _›) _ _ ?_ | skip
  simp only [finL, List.getD_cons_zero, List.getD_cons_succ, Nat.zero_add, Nat.reduceAdd, List.setIfInBounds_toArray, List.set_cons_zero, List.set_cons_succ]
  go_wp2
  go_ret
  exact ho_no (by unfold hold dpre; try simp only [h1_0]; rfl) hW.tn
 | false =>
  cases h1_1 : decide (nd ≥ n) with
  | true =>
    refine wp_region_any hmx ?_
    refine zwp (fun i__ => ([(.pointer (some ⟨w.heap.size, 0, none⟩)), (.int .i64 2), (.bool false), (.bool false), (.pointer (some ⟨w.heap.size, 0, none⟩)), (.int .i64 2), (.bool false), (.bool false), (.bool false), (.pointer (some ⟨w.heap.size, 1, none⟩)), (.int .i64 nd), (.bool false), (.bool false), (.bool false), (.pointer (some ⟨w.heap.size, 1, none⟩)), (.int .i64 nd), (.pointer (some ⟨y, 0, none⟩)), (.pointer (some ⟨y, 0, none⟩)), (.pointer (some ⟨y, 0, none⟩)), (.int .i64 n), (.bool true), (.bool true), (.bool true), undef, undef, undef, (.bool true), (.bool true), undef, undef, undef, (.bool true), (.bool true), undef, undef, undef, (.bool true)] : List Value).getD i__ undef) (fun V => JH w y w.heap.size n f D ⟨2, nd, li, ro, ta, of, du, he, un⟩ V) (by kernel_rfl) (hJ0.carry (Below.refl _ _).drew) ?_ ?_
    · refine (sqc ?_ (sqc ?_ (sqc ?_ (sqc ?_ (sqc ?_ (sqc ?_ (sqc ?_ (sqc ?_ (sqc ?_ (sqc ?_ (sqc ?_ (sqc ?_ (sqc ?_ (sqc ?_ (sqc ?_ (sqc ?_ (sqc ?_ (sqc ?_ (sqc ?_ (sqc ?_ (sqc ?_ (sqc ?_ (sqc ?_ (sqc ?_ (sqc ?_ (sqc ?_ (sqc ?_ (sqc ?_ (sqc ?_ (sqc ?_ (sqc ?_ (sqc ?_ (sqc ?_ (sqc ?_ (sqc ?_ (sqc ?_ (sqc ?_ trivial)))))))))))))))))))))))))))))))))))))
      · exact zfa rfl trivial _ _ _ _ rfl rfl (fun w hw => faE0 w _ _)
      · exact zld rfl trivial _ _ _ rfl rfl (fun w hw => load_in ((zca hw.bx 0).trans rfl))
      · exact zbo rfl trivial _ _ _ _ _ _ _ rfl rfl rfl (fun w hw => bin_lss _ _ _)
      · exact zmv rfl trivial _ rfl (by kernel_rfl)
      · exact zfa rfl ⟨_, rfl, by kernel_rfl⟩ _ _ _ _ rfl rfl (fun w hw => faE0 w _ _)
      · exact zld rfl ⟨_, rfl, by kernel_rfl⟩ _ _ _ rfl rfl (fun w hw => load_in ((zca hw.bx 0).trans rfl))
      · exact zbo rfl ⟨_, rfl, by kernel_rfl⟩ _ _ _ _ _ _ _ rfl rfl rfl (fun w hw => bin_gtr _ _ _)
      · exact step_pick rfl trivial _ _ _ false rfl (by kernel_rfl) (by kernel_rfl)
      · exact zmv rfl trivial _ rfl (by kernel_rfl)
      · exact zfa rfl ⟨_, rfl, by kernel_rfl⟩ _ _ _ _ rfl rfl (fun w hw => faE1 w _ _)
      · exact zld rfl ⟨_, rfl, by kernel_rfl⟩ _ _ _ rfl rfl (fun w hw => load_in ((zca hw.bx 1).trans rfl))
      · exact zbo rfl ⟨_, rfl, by kernel_rfl⟩ _ _ _ _ _ _ _ rfl rfl rfl (fun w hw => by rw [← h1_0]; exact bin_lss _ _ _)
      · exact step_pick rfl trivial _ _ _ false rfl (by kernel_rfl) (by kernel_rfl)
      · exact zmv rfl trivial _ rfl (by kernel_rfl)
      · exact zfa rfl ⟨_, rfl, by kernel_rfl⟩ _ _ _ _ rfl rfl (fun w hw => faE1 w _ _)
      · exact zld rfl ⟨_, rfl, by kernel_rfl⟩ _ _ _ rfl rfl (fun w hw => load_in ((zca hw.bx 1).trans rfl))
      · exact zmv rfl ⟨_, rfl, by kernel_rfl⟩ _ rfl (by kernel_rfl)
      · exact znc rfl ⟨_, rfl, by kernel_rfl⟩ _ _ _ rfl rfl rfl
      · exact zfa rfl ⟨_, rfl, by kernel_rfl⟩ _ _ _ _ rfl rfl (fun w hw => faD0 w _ _)
      · exact zld rfl ⟨_, rfl, by kernel_rfl⟩ _ _ _ rfl rfl (fun w hw => load_in hw.de.c0)
      · exact zbo rfl ⟨_, rfl, by kernel_rfl⟩ _ _ _ _ _ _ _ rfl rfl rfl (fun w hw => by rw [← h1_1]; exact bin_geq _ _ _)
      · exact step_pick rfl trivial _ _ _ false rfl (by kernel_rfl) (by kernel_rfl)
      · exact zmv rfl trivial _ rfl (by kernel_rfl)
      · exact zsk rfl 22 false 28 (.bool true) rfl rfl (by kernel_rfl) (by intro h; cases h) rfl
      · exact zsk rfl 22 false 28 (.bool true) rfl rfl (by kernel_rfl) (by intro h; cases h) rfl
      · exact zsk rfl 22 false 28 (.bool true) rfl rfl (by kernel_rfl) (by intro h; cases h) rfl
      · exact step_pick rfl trivial _ _ _ true rfl (by kernel_rfl) (by kernel_rfl)
      · exact zmv rfl trivial _ rfl (by kernel_rfl)
      · exact zsk rfl 27 false 33 (.bool true) rfl rfl (by kernel_rfl) (by intro h; cases h) rfl
      · exact zsk rfl 27 false 33 (.bool true) rfl rfl (by kernel_rfl) (by intro h; cases h) rfl
      · exact zsk rfl 27 false 33 (.bool true) rfl rfl (by kernel_rfl) (by intro h; cases h) rfl
      · exact step_pick rfl trivial _ _ _ true rfl (by kernel_rfl) (by kernel_rfl)
      · exact zmv rfl trivial _ rfl (by kernel_rfl)
      · exact zsk rfl 32 false 38 (.bool true) rfl rfl (by kernel_rfl) (by intro h; cases h) rfl
      · exact zsk rfl 32 false 38 (.bool true) rfl rfl (by kernel_rfl) (by intro h; cases h) rfl
      · exact zsk rfl 32 false 38 (.bool true) rfl rfl (by kernel_rfl) (by intro h; cases h) rfl
      · exact step_pick rfl trivial _ _ _ true rfl (by kernel_rfl) (by kernel_rfl)
    intro W hW
    first | refine hK _ _ ?_ | refine (‹∀ (a : Act) (w : World), Code.wp Try.prog _ _ a w → _›) _ _ ?_ | skip
    simp only [finL, List.getD_cons_zero, List.getD_cons_succ, Nat.zero_add, Nat.reduceAdd, List.setIfInBounds_toArray, List.set_cons_zero, List.set_cons_succ]
    go_wp2
    go_ret
    exact ho_no (by unfold hold dpre; try simp only [h1_0]; try simp only [h1_1]; rfl) hW.tn
  | false =>
    cases h1_2 : decide (li < 1) with
    | true =>
      refine wp_region_any hmx ?_
      refine zwp (fun i__ => ([(.pointer (some ⟨w.heap.size, 0, none⟩)), (.int .i64 2), (.bool false), (.bool false), (.pointer (some ⟨w.heap.size, 0, none⟩)), (.int .i64 2), (.bool false), (.bool false), (.bool false), (.pointer (some ⟨w.heap.size, 1, none⟩)), (.int .i64 nd), (.bool false), (.bool false), (.bool false), (.pointer (some ⟨w.heap.size, 1, none⟩)), (.int .i64 nd), (.pointer (some ⟨y, 0, none⟩)), (.pointer (some ⟨y, 0, none⟩)), (.pointer (some ⟨y, 0, none⟩)), (.int .i64 n), (.bool false), (.bool false), (.bool false), (.pointer (some ⟨w.heap.size, 2, none⟩)), (.int .i64 li), (.bool true), (.bool true), (.bool true), undef, undef, undef, (.bool true), (.bool true), undef, undef, undef, (.bool true)] : List Value).getD i__ undef) (fun V => JH w y w.heap.size n f D ⟨2, nd, li, ro, ta, of, du, he, un⟩ V) (by kernel_rfl) (hJ0.carry (Below.refl _ _).drew) ?_ ?_
      · refine (sqc ?_ (sqc ?_ (sqc ?_ (sqc ?_ (sqc ?_ (sqc ?_ (sqc ?_ (sqc ?_ (sqc ?_ (sqc ?_ (sqc ?_ (sqc ?_ (sqc ?_ (sqc ?_ (sqc ?_ (sqc ?_ (sqc ?_ (sqc ?_ (sqc ?_ (sqc ?_ (sqc ?_ (sqc ?_ (sqc ?_ (sqc ?_ (sqc ?_ (sqc ?_ (sqc ?_ (sqc ?_ (sqc ?_ (sqc ?_ (sqc ?_ (sqc ?_ (sqc ?_ (sqc ?_ (sqc ?_ (sqc ?_ (sqc ?_ trivial)))))))))))))))))))))))))))))))))))))
        · exact zfa rfl trivial _ _ _ _ rfl rfl (fun w hw => faE0 w _ _)
        · exact zld rfl trivial _ _ _ rfl rfl (fun w hw => load_in ((zca hw.bx 0).trans rfl))
        · exact zbo rfl trivial _ _ _ _ _ _ _ rfl rfl rfl (fun w hw => bin_lss _ _ _)
        · exact zmv rfl trivial _ rfl (by kernel_rfl)
        · exact zfa rfl ⟨_, rfl, by kernel_rfl⟩ _ _ _ _ rfl rfl (fun w hw => faE0 w _ _)
        · exact zld rfl ⟨_, rfl, by kernel_rfl⟩ _ _ _ rfl rfl (fun w hw => load_in ((zca hw.bx 0).trans rfl))
        · exact zbo rfl ⟨_, rfl, by kernel_rfl⟩ _ _ _ _ _ _ _ rfl rfl rfl (fun w hw => bin_gtr _ _ _)
        · exact step_pick rfl trivial _ _ _ false rfl (by kernel_rfl) (by kernel_rfl)
        · exact zmv rfl trivial _ rfl (by kernel_rfl)
        · exact zfa rfl ⟨_, rfl, by kernel_rfl⟩ _ _ _ _ rfl rfl (fun w hw => faE1 w _ _)
        · exact zld rfl ⟨_, rfl, by kernel_rfl⟩ _ _ _ rfl rfl (fun w hw => load_in ((zca hw.bx 1).trans rfl))
        · exact zbo rfl ⟨_, rfl, by kernel_rfl⟩ _ _ _ _ _ _ _ rfl rfl rfl (fun w hw => by rw [← h1_0]; exact bin_lss _ _ _)
        · exact step_pick rfl trivial _ _ _ false rfl (by kernel_rfl) (by kernel_rfl)
        · exact zmv rfl trivial _ rfl (by kernel_rfl)
        · exact zfa rfl ⟨_, rfl, by kernel_rfl⟩ _ _ _ _ rfl rfl (fun w hw => faE1 w _ _)
        · exact zld rfl ⟨_, rfl, by kernel_rfl⟩ _ _ _ rfl rfl (fun w hw => load_in ((zca hw.bx 1).trans rfl))
        · exact zmv rfl ⟨_, rfl, by kernel_rfl⟩ _ rfl (by kernel_rfl)
        · exact znc rfl ⟨_, rfl, by kernel_rfl⟩ _ _ _ rfl rfl rfl
        · exact zfa rfl ⟨_, rfl, by kernel_rfl⟩ _ _ _ _ rfl rfl (fun w hw => faD0 w _ _)
        · exact zld rfl ⟨_, rfl, by kernel_rfl⟩ _ _ _ rfl rfl (fun w hw => load_in hw.de.c0)
        · exact zbo rfl ⟨_, rfl, by kernel_rfl⟩ _ _ _ _ _ _ _ rfl rfl rfl (fun w hw => by rw [← h1_1]; exact bin_geq _ _ _)
        · exact step_pick rfl trivial _ _ _ false rfl (by kernel_rfl) (by kernel_rfl)
        · exact zmv rfl trivial _ rfl (by kernel_rfl)
        · exact zfa rfl ⟨_, rfl, by kernel_rfl⟩ _ _ _ _ rfl rfl (fun w hw => faE2 w _ _)
        · exact zld rfl ⟨_, rfl, by kernel_rfl⟩ _ _ _ rfl rfl (fun w hw => load_in ((zca hw.bx 2).trans rfl))
        · exact zbo rfl ⟨_, rfl, by kernel_rfl⟩ _ _ _ _ _ _ _ rfl rfl rfl (fun w hw => by rw [← h1_2]; exact bin_lss _ _ _)
        · exact step_pick rfl trivial _ _ _ false rfl (by kernel_rfl) (by kernel_rfl)
        · exact zmv rfl trivial _ rfl (by kernel_rfl)
        · exact zsk rfl 27 false 33 (.bool true) rfl rfl (by kernel_rfl) (by intro h; cases h) rfl
        · exact zsk rfl 27 false 33 (.bool true) rfl rfl (by kernel_rfl) (by intro h; cases h) rfl
        · exact zsk rfl 27 false 33 (.bool true) rfl rfl (by kernel_rfl) (by intro h; cases h) rfl
        · exact step_pick rfl trivial _ _ _ true rfl (by kernel_rfl) (by kernel_rfl)
        · exact zmv rfl trivial _ rfl (by kernel_rfl)
        · exact zsk rfl 32 false 38 (.bool true) rfl rfl (by kernel_rfl) (by intro h; cases h) rfl
        · exact zsk rfl 32 false 38 (.bool true) rfl rfl (by kernel_rfl) (by intro h; cases h) rfl
        · exact zsk rfl 32 false 38 (.bool true) rfl rfl (by kernel_rfl) (by intro h; cases h) rfl
        · exact step_pick rfl trivial _ _ _ true rfl (by kernel_rfl) (by kernel_rfl)
      intro W hW
      first | refine hK _ _ ?_ | refine (‹∀ (a : Act) (w : World), Code.wp Try.prog _ _ a w → _›) _ _ ?_ | skip
      simp only [finL, List.getD_cons_zero, List.getD_cons_succ, Nat.zero_add, Nat.reduceAdd, List.setIfInBounds_toArray, List.set_cons_zero, List.set_cons_succ]
      go_wp2
      go_ret
      exact ho_no (by unfold hold dpre; try simp only [h1_0]; try simp only [h1_1]; try simp only [h1_2]; rfl) hW.tn
    | false =>
      cases h1_3 : decide (li > 1073741824) with
      | true =>
        refine wp_region_any hmx ?_
        refine zwp (fun i__ => ([(.pointer (some ⟨w.heap.size, 0, none⟩)), (.int .i64 2), (.bool false), (.bool false), (.pointer (some ⟨w.heap.size, 0, none⟩)), (.int .i64 2), (.bool false), (.bool false), (.bool false), (.pointer (some ⟨w.heap.size, 1, none⟩)), (.int .i64 nd), (.bool false), (.bool false), (.bool false), (.pointer (some ⟨w.heap.size, 1, none⟩)), (.int .i64 nd), (.pointer (some ⟨y, 0, none⟩)), (.pointer (some ⟨y, 0, none⟩)), (.pointer (some ⟨y, 0, none⟩)), (.int .i64 n), (.bool false), (.bool false), (.bool false), (.pointer (some ⟨w.heap.size, 2, none⟩)), (.int .i64 li), (.bool false), (.bool false), (.bool false), (.pointer (some ⟨w.heap.size, 2, none⟩)), (.int .i64 li), (.bool true), (.bool true), (.bool true), undef, undef, undef, (.bool true)] : List Value).getD i__ undef) (fun V => JH w y w.heap.size n f D ⟨2, nd, li, ro, ta, of, du, he, un⟩ V) (by kernel_rfl) (hJ0.carry (Below.refl _ _).drew) ?_ ?_
        · refine (sqc ?_ (sqc ?_ (sqc ?_ (sqc ?_ (sqc ?_ (sqc ?_ (sqc ?_ (sqc ?_ (sqc ?_ (sqc ?_ (sqc ?_ (sqc ?_ (sqc ?_ (sqc ?_ (sqc ?_ (sqc ?_ (sqc ?_ (sqc ?_ (sqc ?_ (sqc ?_ (sqc ?_ (sqc ?_ (sqc ?_ (sqc ?_ (sqc ?_ (sqc ?_ (sqc ?_ (sqc ?_ (sqc ?_ (sqc ?_ (sqc ?_ (sqc ?_ (sqc ?_ (sqc ?_ (sqc ?_ (sqc ?_ (sqc ?_ trivial)))))))))))))))))))))))))))))))))))))
          · exact zfa rfl trivial _ _ _ _ rfl rfl (fun w hw => faE0 w _ _)
          · exact zld rfl trivial _ _ _ rfl rfl (fun w hw => load_in ((zca hw.bx 0).trans rfl))
          · exact zbo rfl trivial _ _ _ _ _ _ _ rfl rfl rfl (fun w hw => bin_lss _ _ _)
          · exact zmv rfl trivial _ rfl (by kernel_rfl)
          · exact zfa rfl ⟨_, rfl, by kernel_rfl⟩ _ _ _ _ rfl rfl (fun w hw => faE0 w _ _)
          · exact zld rfl ⟨_, rfl, by kernel_rfl⟩ _ _ _ rfl rfl (fun w hw => load_in ((zca hw.bx 0).trans rfl))
          · exact zbo rfl ⟨_, rfl, by kernel_rfl⟩ _ _ _ _ _ _ _ rfl rfl rfl (fun w hw => bin_gtr _ _ _)
          · exact step_pick rfl trivial _ _ _ false rfl (by kernel_rfl) (by kernel_rfl)
          · exact zmv rfl trivial _ rfl (by kernel_rfl)
          · exact zfa rfl ⟨_, rfl, by kernel_rfl⟩ _ _ _ _ rfl rfl (fun w hw => faE1 w _ _)
          · exact zld rfl ⟨_, rfl, by kernel_rfl⟩ _ _ _ rfl rfl (fun w hw => load_in ((zca hw.bx 1).trans rfl))
          · exact zbo rfl ⟨_, rfl, by kernel_rfl⟩ _ _ _ _ _ _ _ rfl rfl rfl (fun w hw => by rw [← h1_0]; exact bin_lss _ _ _)
          · exact step_pick rfl trivial _ _ _ false rfl (by kernel_rfl) (by kernel_rfl)
          · exact zmv rfl trivial _ rfl (by kernel_rfl)
          · exact zfa rfl ⟨_, rfl, by kernel_rfl⟩ _ _ _ _ rfl rfl (fun w hw => faE1 w _ _)
          · exact zld rfl ⟨_, rfl, by kernel_rfl⟩ _ _ _ rfl rfl (fun w hw => load_in ((zca hw.bx 1).trans rfl))
          · exact zmv rfl ⟨_, rfl, by kernel_rfl⟩ _ rfl (by kernel_rfl)
          · exact znc rfl ⟨_, rfl, by kernel_rfl⟩ _ _ _ rfl rfl rfl
          · exact zfa rfl ⟨_, rfl, by kernel_rfl⟩ _ _ _ _ rfl rfl (fun w hw => faD0 w _ _)
          · exact zld rfl ⟨_, rfl, by kernel_rfl⟩ _ _ _ rfl rfl (fun w hw => load_in hw.de.c0)
          · exact zbo rfl ⟨_, rfl, by kernel_rfl⟩ _ _ _ _ _ _ _ rfl rfl rfl (fun w hw => by rw [← h1_1]; exact bin_geq _ _ _)
          · exact step_pick rfl trivial _ _ _ false rfl (by kernel_rfl) (by kernel_rfl)
          · exact zmv rfl trivial _ rfl (by kernel_rfl)
          · exact zfa rfl ⟨_, rfl, by kernel_rfl⟩ _ _ _ _ rfl rfl (fun w hw => faE2 w _ _)
          · exact zld rfl ⟨_, rfl, by kernel_rfl⟩ _ _ _ rfl rfl (fun w hw => load_in ((zca hw.bx 2).trans rfl))
          · exact zbo rfl ⟨_, rfl, by kernel_rfl⟩ _ _ _ _ _ _ _ rfl rfl rfl (fun w hw => by rw [← h1_2]; exact bin_lss _ _ _)
          · exact step_pick rfl trivial _ _ _ false rfl (by kernel_rfl) (by kernel_rfl)
          · exact zmv rfl trivial _ rfl (by kernel_rfl)
          · exact zfa rfl ⟨_, rfl, by kernel_rfl⟩ _ _ _ _ rfl rfl (fun w hw => faE2 w _ _)
          · exact zld rfl ⟨_, rfl, by kernel_rfl⟩ _ _ _ rfl rfl (fun w hw => load_in ((zca hw.bx 2).trans rfl))
          · exact zbo rfl ⟨_, rfl, by kernel_rfl⟩ _ _ _ _ _ _ _ rfl rfl rfl (fun w hw => by rw [← h1_3]; exact bin_gtr _ _ _)
          · exact step_pick rfl trivial _ _ _ false rfl (by kernel_rfl) (by kernel_rfl)
          · exact zmv rfl trivial _ rfl (by kernel_rfl)
          · exact zsk rfl 32 false 38 (.bool true) rfl rfl (by kernel_rfl) (by intro h; cases h) rfl
          · exact zsk rfl 32 false 38 (.bool true) rfl rfl (by kernel_rfl) (by intro h; cases h) rfl
          · exact zsk rfl 32 false 38 (.bool true) rfl rfl (by kernel_rfl) (by intro h; cases h) rfl
          · exact step_pick rfl trivial _ _ _ true rfl (by kernel_rfl) (by kernel_rfl)
        intro W hW
        first | refine hK _ _ ?_ | refine (‹∀ (a : Act) (w : World), Code.wp Try.prog _ _ a w → _›) _ _ ?_ | skip
        simp only [finL, List.getD_cons_zero, List.getD_cons_succ, Nat.zero_add, Nat.reduceAdd, List.setIfInBounds_toArray, List.set_cons_zero, List.set_cons_succ]
        go_wp2
        go_ret
        exact ho_no (by unfold hold dpre; try simp only [h1_0]; try simp only [h1_1]; try simp only [h1_2]; try simp only [h1_3]; rfl) hW.tn
      | false =>
        cases h1_4 : eqEv ⟨2, nd, li, ro, ta, of, du, he, un⟩ (bareE ⟨2, nd, li, ro, ta, of, du, he, un⟩) with
        | true =>
          refine wp_region_any hmx ?_
          refine zwp (fun i__ => ([(.pointer (some ⟨w.heap.size, 0, none⟩)), (.int .i64 2), (.bool false), (.bool false), (.pointer (some ⟨w.heap.size, 0, none⟩)), (.int .i64 2), (.bool false), (.bool false), (.bool false), (.pointer (some ⟨w.heap.size, 1, none⟩)), (.int .i64 nd), (.bool false), (.bool false), (.bool false), (.pointer (some ⟨w.heap.size, 1, none⟩)), (.int .i64 nd), (.pointer (some ⟨y, 0, none⟩)), (.pointer (some ⟨y, 0, none⟩)), (.pointer (some ⟨y, 0, none⟩)), (.int .i64 n), (.bool false), (.bool false), (.bool false), (.pointer (some ⟨w.heap.size, 2, none⟩)), (.int .i64 li), (.bool false), (.bool false), (.bool false), (.pointer (some ⟨w.heap.size, 2, none⟩)), (.int .i64 li), (.bool false), (.bool false), (.bool false), (evV ⟨2, nd, li, ro, ta, of, du, he, un⟩), (.bool true), (.bool false), (.bool false)] : List Value).getD i__ undef) (fun V => JH w y w.heap.size n f D ⟨2, nd, li, ro, ta, of, du, he, un⟩ V) (by kernel_rfl) (hJ0.carry (Below.refl _ _).drew) ?_ ?_
          · refine (sqc ?_ (sqc ?_ (sqc ?_ (sqc ?_ (sqc ?_ (sqc ?_ (sqc ?_ (sqc ?_ (sqc ?_ (sqc ?_ (sqc ?_ (sqc ?_ (sqc ?_ (sqc ?_ (sqc ?_ (sqc ?_ (sqc ?_ (sqc ?_ (sqc ?_ (sqc ?_ (sqc ?_ (sqc ?_ (sqc ?_ (sqc ?_ (sqc ?_ (sqc ?_ (sqc ?_ (sqc ?_ (sqc ?_ (sqc ?_ (sqc ?_ (sqc ?_ (sqc ?_ (sqc ?_ (sqc ?_ (sqc ?_ (sqc ?_ trivial)))))))))))))))))))))))))))))))))))))
            · exact zfa rfl trivial _ _ _ _ rfl rfl (fun w hw => faE0 w _ _)
            · exact zld rfl trivial _ _ _ rfl rfl (fun w hw => load_in ((zca hw.bx 0).trans rfl))
            · exact zbo rfl trivial _ _ _ _ _ _ _ rfl rfl rfl (fun w hw => bin_lss _ _ _)
            · exact zmv rfl trivial _ rfl (by kernel_rfl)
            · exact zfa rfl ⟨_, rfl, by kernel_rfl⟩ _ _ _ _ rfl rfl (fun w hw => faE0 w _ _)
            · exact zld rfl ⟨_, rfl, by kernel_rfl⟩ _ _ _ rfl rfl (fun w hw => load_in ((zca hw.bx 0).trans rfl))
            · exact zbo rfl ⟨_, rfl, by kernel_rfl⟩ _ _ _ _ _ _ _ rfl rfl rfl (fun w hw => bin_gtr _ _ _)
            · exact step_pick rfl trivial _ _ _ false rfl (by kernel_rfl) (by kernel_rfl)
            · exact zmv rfl trivial _ rfl (by kernel_rfl)
            · exact zfa rfl ⟨_, rfl, by kernel_rfl⟩ _ _ _ _ rfl rfl (fun w hw => faE1 w _ _)
            · exact zld rfl ⟨_, rfl, by kernel_rfl⟩ _ _ _ rfl rfl (fun w hw => load_in ((zca hw.bx 1).trans rfl))
            · exact zbo rfl ⟨_, rfl, by kernel_rfl⟩ _ _ _ _ _ _ _ rfl rfl rfl (fun w hw => by rw [← h1_0]; exact bin_lss _ _ _)
            · exact step_pick rfl trivial _ _ _ false rfl (by kernel_rfl) (by kernel_rfl)
            · exact zmv rfl trivial _ rfl (by kernel_rfl)
            · exact zfa rfl ⟨_, rfl, by kernel_rfl⟩ _ _ _ _ rfl rfl (fun w hw => faE1 w _ _)
            · exact zld rfl ⟨_, rfl, by kernel_rfl⟩ _ _ _ rfl rfl (fun w hw => load_in ((zca hw.bx 1).trans rfl))
            · exact zmv rfl ⟨_, rfl, by kernel_rfl⟩ _ rfl (by kernel_rfl)
            · exact znc rfl ⟨_, rfl, by kernel_rfl⟩ _ _ _ rfl rfl rfl
            · exact zfa rfl ⟨_, rfl, by kernel_rfl⟩ _ _ _ _ rfl rfl (fun w hw => faD0 w _ _)
            · exact zld rfl ⟨_, rfl, by kernel_rfl⟩ _ _ _ rfl rfl (fun w hw => load_in hw.de.c0)
            · exact zbo rfl ⟨_, rfl, by kernel_rfl⟩ _ _ _ _ _ _ _ rfl rfl rfl (fun w hw => by rw [← h1_1]; exact bin_geq _ _ _)
            · exact step_pick rfl trivial _ _ _ false rfl (by kernel_rfl) (by kernel_rfl)
            · exact zmv rfl trivial _ rfl (by kernel_rfl)
            · exact zfa rfl ⟨_, rfl, by kernel_rfl⟩ _ _ _ _ rfl rfl (fun w hw => faE2 w _ _)
            · exact zld rfl ⟨_, rfl, by kernel_rfl⟩ _ _ _ rfl rfl (fun w hw => load_in ((zca hw.bx 2).trans rfl))
            · exact zbo rfl ⟨_, rfl, by kernel_rfl⟩ _ _ _ _ _ _ _ rfl rfl rfl (fun w hw => by rw [← h1_2]; exact bin_lss _ _ _)
            · exact step_pick rfl trivial _ _ _ false rfl (by kernel_rfl) (by kernel_rfl)
            · exact zmv rfl trivial _ rfl (by kernel_rfl)
            · exact zfa rfl ⟨_, rfl, by kernel_rfl⟩ _ _ _ _ rfl rfl (fun w hw => faE2 w _ _)
            · exact zld rfl ⟨_, rfl, by kernel_rfl⟩ _ _ _ rfl rfl (fun w hw => load_in ((zca hw.bx 2).trans rfl))
            · exact zbo rfl ⟨_, rfl, by kernel_rfl⟩ _ _ _ _ _ _ _ rfl rfl rfl (fun w hw => by rw [← h1_3]; exact bin_gtr _ _ _)
            · exact step_pick rfl trivial _ _ _ false rfl (by kernel_rfl) (by kernel_rfl)
            · exact zmv rfl trivial _ rfl (by kernel_rfl)
            · exact zld rfl ⟨_, rfl, by kernel_rfl⟩ _ _ _ rfl rfl (fun w hw => load_bx hw.bx)
            · exact zsc rfl ⟨_, rfl, by kernel_rfl⟩ 17 _ _ [(evV ⟨2, nd, li, ro, ta, of, du, he, un⟩)] rfl (by kernel_rfl) (enters_of Try.func17 (by kernel_rfl) rfl) (fun w hw => (rbare_any ⟨2, nd, li, ro, ta, of, du, he, un⟩ hhe hun w).mono (by rintro e w' ⟨rfl, hb⟩; exact ⟨congrArg (fun z => Ending.returned (Value.bool z)) h1_4, hw.carry hb⟩))
            · exact step_unOp rfl ⟨_, rfl, by kernel_rfl⟩ _ _ _ _ rfl rfl (fun w hw => rfl)
            · exact step_pick rfl trivial _ _ _ false rfl (by kernel_rfl) (by kernel_rfl)
          intro W hW
          first | refine hK _ _ ?_ | refine (‹∀ (a : Act) (w : World), Code.wp Try.prog _ _ a w → _›) _ _ ?_ | skip
          simp only [finL, List.getD_cons_zero, List.getD_cons_succ, Nat.zero_add, Nat.reduceAdd, List.setIfInBounds_toArray, List.set_cons_zero, List.set_cons_succ]
          obtain ⟨W1, rfl⟩ : ∃ V, V = W := ⟨_, rfl⟩
          have hJ1 := hW
          clear hW
          have HP : dpre n ⟨2, nd, li, ro, ta, of, du, he, un⟩ = false := by unfold dpre; try simp only [h1_0]; try simp only [h1_1]; try simp only [h1_2]; try simp only [h1_3]; try simp only [h1_4]; rfl
          have hnd : 0 ≤ nd ∧ nd < n := by
            have q0 := of_decide_eq_false h1_0
            have q1 := of_decide_eq_false h1_1
            omega
          obtain ⟨m, hmx2⟩ := Int.eq_ofNat_of_zero_le hnd.1
          have HX : Hid (nd = (m : Int)) := hmx2
          have hml : m < 100 := by omega
          obtain ⟨u, hm⟩ : ∃ u, D.ds[m]? = some u := ⟨_, List.getElem?_eq_getElem (by rw [h.ln]; omega)⟩
          clear hmx2 hnd
          go_wp2
          refine wp_region_any hmx ?_
          refine zwp (fun i__ => ([(.pointer (some ⟨y, 0, none⟩)), (.pointer (some ⟨w.heap.size, 1, none⟩)), (.int .i64 nd), (.pointer (some ⟨y, 0, none⟩)), (.pointer (some ⟨y, 2, none⟩)), (.pointer (some ⟨y, 2 + m * 6, none⟩)), (.pointer (some ⟨y, 2 + m * 6, none⟩))] : List Value).getD i__ undef) (fun V => JH w y w.heap.size n f D ⟨2, nd, li, ro, ta, of, du, he, un⟩ V) (by kernel_rfl) (hJ1.carry (Below.refl _ _).drew) ?_ ?_
          · refine (sqc ?_ (sqc ?_ (sqc ?_ (sqc ?_ (sqc ?_ (sqc ?_ (sqc ?_ trivial)))))))
            · exact zmv rfl trivial _ rfl (by kernel_rfl)
            · exact zfa rfl trivial _ _ _ _ rfl rfl (fun w hw => faE1 w _ _)
            · exact zld rfl trivial _ _ _ rfl rfl (fun w hw => load_in ((zca hw.bx 1).trans rfl))
            · exact znc rfl trivial _ _ _ rfl rfl rfl
            · exact zfa rfl trivial _ _ _ _ rfl rfl (fun w hw => faD2 w _ _)
            · exact zia rfl trivial _ _ _ _ _ rfl rfl rfl (fun w hw => by rw [HX.out]; exact idx_d y m hml w)
            · exact zas rfl trivial _ rfl (by kernel_rfl) (fun _ h => h)
          intro W hW
          first | refine hK _ _ ?_ | refine (‹∀ (a : Act) (w : World), Code.wp Try.prog _ _ a w → _›) _ _ ?_ | skip
          simp only [finL, List.getD_cons_zero, List.getD_cons_succ, Nat.zero_add, Nat.reduceAdd, List.setIfInBounds_toArray, List.set_cons_zero, List.set_cons_succ]
          obtain ⟨W3, rfl⟩ : ∃ V, V = W := ⟨_, rfl⟩
          have hJ3 := hW
          clear hW
          go_wp2
          cases h4_0 : D.rb with
          | true =>
            cases h4_1 : (nd != D.c.nd) with
            | true =>
              refine wp_region_any hmx ?_
              refine zwp (fun i__ => ([(.pointer (some ⟨y, 0, none⟩)), (.pointer (some ⟨y, 0, none⟩)), (.pointer (some ⟨y, 602, none⟩)), (.bool true), (.bool true), (.pointer (some ⟨w.heap.size, 1, none⟩)), (.int .i64 nd), (.pointer (some ⟨y, 0, none⟩)), (.pointer (some ⟨y, 0, none⟩)), (.pointer (some ⟨y, 603, none⟩)), (.pointer (some ⟨y, 604, none⟩)), (.int .i64 D.c.nd), (.bool true), (.bool true), undef, undef, undef, undef, undef, undef, undef, undef, (.bool true), (.bool true), (.bool true), undef, undef, undef, undef, undef, undef, undef, undef, undef, undef, (.bool true)] : List Value).getD i__ undef) (fun V => JH w y w.heap.size n f D ⟨2, nd, li, ro, ta, of, du, he, un⟩ V) (by kernel_rfl) (hJ3.carry (Below.refl _ _).drew) ?_ ?_
              · refine (sqc ?_ (sqc ?_ (sqc ?_ (sqc ?_ (sqc ?_ (sqc ?_ (sqc ?_ (sqc ?_ (sqc ?_ (sqc ?_ (sqc ?_ (sqc ?_ (sqc ?_ (sqc ?_ (sqc ?_ (sqc ?_ (sqc ?_ (sqc ?_ (sqc ?_ (sqc ?_ (sqc ?_ (sqc ?_ (sqc ?_ (sqc ?_ (sqc ?_ (sqc ?_ (sqc ?_ (sqc ?_ (sqc ?_ (sqc ?_ (sqc ?_ (sqc ?_ (sqc ?_ (sqc ?_ (sqc ?_ (sqc ?_ trivial))))))))))))))))))))))))))))))))))))
                · exact zmv rfl trivial _ rfl (by kernel_rfl)
                · exact znc rfl trivial _ _ _ rfl rfl rfl
                · exact zfa rfl trivial _ _ _ _ rfl rfl (fun w hw => faD3 w _ _)
                · exact zld rfl trivial _ _ _ rfl rfl (fun w hw => by rw [← h4_0]; exact load_bo hw.de.crb)
                · exact zmv rfl trivial _ rfl (by kernel_rfl)
                · exact zfa rfl ⟨_, rfl, by kernel_rfl⟩ _ _ _ _ rfl rfl (fun w hw => faE1 w _ _)
                · exact zld rfl ⟨_, rfl, by kernel_rfl⟩ _ _ _ rfl rfl (fun w hw => load_in ((zca hw.bx 1).trans rfl))
                · exact zmv rfl ⟨_, rfl, by kernel_rfl⟩ _ rfl (by kernel_rfl)
                · exact znc rfl ⟨_, rfl, by kernel_rfl⟩ _ _ _ rfl rfl rfl
                · exact zfa rfl ⟨_, rfl, by kernel_rfl⟩ _ _ _ _ rfl rfl (fun w hw => faD4 w _ _)
                · exact zfa rfl ⟨_, rfl, by kernel_rfl⟩ _ _ _ _ rfl rfl (fun w hw => faE1 w _ _)
                · exact zld rfl ⟨_, rfl, by kernel_rfl⟩ _ _ _ rfl rfl (fun w hw => load_in (hw.de.cc (j := 1) (by decide) rfl))
                · exact zbo rfl ⟨_, rfl, by kernel_rfl⟩ _ _ _ _ _ _ _ rfl rfl rfl (fun w hw => by rw [← h4_1]; exact bin_neq _ _ _)
                · exact zmv rfl ⟨_, rfl, by kernel_rfl⟩ _ rfl (by kernel_rfl)
                · exact zsk rfl 13 false 62 (.bool true) rfl rfl (by kernel_rfl) (by intro h; cases h) rfl
                · exact zsk rfl 13 false 62 (.bool true) rfl rfl (by kernel_rfl) (by intro h; cases h) rfl
                · exact zsk rfl 13 false 62 (.bool true) rfl rfl (by kernel_rfl) (by intro h; cases h) rfl
                · exact zsk rfl 13 false 62 (.bool true) rfl rfl (by kernel_rfl) (by intro h; cases h) rfl
                · exact zsk rfl 17 true 66 undef rfl rfl (by kernel_rfl) (by intro h; cases h) rfl
                · exact zsk rfl 17 true 66 undef rfl rfl (by kernel_rfl) (by intro h; cases h) rfl
                · exact zsk rfl 17 true 66 undef rfl rfl (by kernel_rfl) (by intro h; cases h) rfl
                · exact zsk rfl 13 false 62 (.bool true) rfl rfl (by kernel_rfl) (by intro h; cases h) rfl
                · exact step_pick rfl ⟨_, rfl, by kernel_rfl⟩ _ _ _ true rfl (by kernel_rfl) (by kernel_rfl)
                · exact step_pick rfl trivial _ _ _ true rfl (by kernel_rfl) (by kernel_rfl)
                · exact zmv rfl trivial _ rfl (by kernel_rfl)
                · exact zsk rfl 24 false 73 (.bool true) rfl rfl (by kernel_rfl) (by intro h; cases h) rfl
                · exact zsk rfl 24 false 73 (.bool true) rfl rfl (by kernel_rfl) (by intro h; cases h) rfl
                · exact zsk rfl 24 false 73 (.bool true) rfl rfl (by kernel_rfl) (by intro h; cases h) rfl
                · exact zsk rfl 24 false 73 (.bool true) rfl rfl (by kernel_rfl) (by intro h; cases h) rfl
                · exact zsk rfl 24 false 73 (.bool true) rfl rfl (by kernel_rfl) (by intro h; cases h) rfl
                · exact zsk rfl 24 false 73 (.bool true) rfl rfl (by kernel_rfl) (by intro h; cases h) rfl
                · exact zsk rfl 30 true 79 undef rfl rfl (by kernel_rfl) (by intro h; cases h) rfl
                · exact zsk rfl 30 true 79 undef rfl rfl (by kernel_rfl) (by intro h; cases h) rfl
                · exact zsk rfl 30 true 79 undef rfl rfl (by kernel_rfl) (by intro h; cases h) rfl
                · exact zsk rfl 24 false 73 (.bool true) rfl rfl (by kernel_rfl) (by intro h; cases h) rfl
                · exact step_pick rfl trivial _ _ _ true rfl (by kernel_rfl) (by kernel_rfl)
              intro W hW
              first | refine hK _ _ ?_ | refine (‹∀ (a : Act) (w : World), Code.wp Try.prog _ _ a w → _›) _ _ ?_ | skip
              simp only [finL, List.getD_cons_zero, List.getD_cons_succ, Nat.zero_add, Nat.reduceAdd, List.setIfInBounds_toArray, List.set_cons_zero, List.set_cons_succ]
              go_wp2
              go_ret
              exact ho_no (by unfold hold; rw [HP]; unfold rwbad; try simp only [h4_0]; try simp only [h4_1]; rfl) hW.tn
            | false =>
              refine wp_region_any hmx ?_
              refine zwp (fun i__ => ([(.pointer (some ⟨y, 0, none⟩)), (.pointer (some ⟨y, 0, none⟩)), (.pointer (some ⟨y, 602, none⟩)), (.bool true), (.bool true), (.pointer (some ⟨w.heap.size, 1, none⟩)), (.int .i64 nd), (.pointer (some ⟨y, 0, none⟩)), (.pointer (some ⟨y, 0, none⟩)), (.pointer (some ⟨y, 603, none⟩)), (.pointer (some ⟨y, 604, none⟩)), (.int .i64 D.c.nd), (.bool false), (.bool false), (.pointer (some ⟨w.heap.size, 0, none⟩)), (.int .i64 2), (.bool false), (.bool false), undef, undef, undef, (.bool false), (.bool false), (.bool false), (.bool false), (.pointer (some ⟨y, 0, none⟩)), (.pointer (some ⟨y, 0, none⟩)), (.pointer (some ⟨y, 602, none⟩)), (.bool true), (.bool false), (.bool false), undef, undef, undef, (.bool false), (.bool false)] : List Value).getD i__ undef) (fun V => JH w y w.heap.size n f D ⟨2, nd, li, ro, ta, of, du, he, un⟩ V) (by kernel_rfl) (hJ3.carry (Below.refl _ _).drew) ?_ ?_
              · refine (sqc ?_ (sqc ?_ (sqc ?_ (sqc ?_ (sqc ?_ (sqc ?_ (sqc ?_ (sqc ?_ (sqc ?_ (sqc ?_ (sqc ?_ (sqc ?_ (sqc ?_ (sqc ?_ (sqc ?_ (sqc ?_ (sqc ?_ (sqc ?_ (sqc ?_ (sqc ?_ (sqc ?_ (sqc ?_ (sqc ?_ (sqc ?_ (sqc ?_ (sqc ?_ (sqc ?_ (sqc ?_ (sqc ?_ (sqc ?_ (sqc ?_ (sqc ?_ (sqc ?_ (sqc ?_ (sqc ?_ (sqc ?_ trivial))))))))))))))))))))))))))))))))))))
                · exact zmv rfl trivial _ rfl (by kernel_rfl)
                · exact znc rfl trivial _ _ _ rfl rfl rfl
                · exact zfa rfl trivial _ _ _ _ rfl rfl (fun w hw => faD3 w _ _)
                · exact zld rfl trivial _ _ _ rfl rfl (fun w hw => by rw [← h4_0]; exact load_bo hw.de.crb)
                · exact zmv rfl trivial _ rfl (by kernel_rfl)
                · exact zfa rfl ⟨_, rfl, by kernel_rfl⟩ _ _ _ _ rfl rfl (fun w hw => faE1 w _ _)
                · exact zld rfl ⟨_, rfl, by kernel_rfl⟩ _ _ _ rfl rfl (fun w hw => load_in ((zca hw.bx 1).trans rfl))
                · exact zmv rfl ⟨_, rfl, by kernel_rfl⟩ _ rfl (by kernel_rfl)
                · exact znc rfl ⟨_, rfl, by kernel_rfl⟩ _ _ _ rfl rfl rfl
                · exact zfa rfl ⟨_, rfl, by kernel_rfl⟩ _ _ _ _ rfl rfl (fun w hw => faD4 w _ _)
                · exact zfa rfl ⟨_, rfl, by kernel_rfl⟩ _ _ _ _ rfl rfl (fun w hw => faE1 w _ _)
                · exact zld rfl ⟨_, rfl, by kernel_rfl⟩ _ _ _ rfl rfl (fun w hw => load_in (hw.de.cc (j := 1) (by decide) rfl))
                · exact zbo rfl ⟨_, rfl, by kernel_rfl⟩ _ _ _ _ _ _ _ rfl rfl rfl (fun w hw => by rw [← h4_1]; exact bin_neq _ _ _)
                · exact zmv rfl ⟨_, rfl, by kernel_rfl⟩ _ rfl (by kernel_rfl)
                · exact zfa rfl ⟨_, rfl, by kernel_rfl⟩ _ _ _ _ rfl rfl (fun w hw => faE0 w _ _)
                · exact zld rfl ⟨_, rfl, by kernel_rfl⟩ _ _ _ rfl rfl (fun w hw => load_in ((zca hw.bx 0).trans rfl))
                · exact zbo rfl ⟨_, rfl, by kernel_rfl⟩ _ _ _ _ _ _ _ rfl rfl rfl (fun w hw => bin_neq _ _ _)
                · exact zmv rfl ⟨_, rfl, by kernel_rfl⟩ _ rfl (by kernel_rfl)
                · exact zsk rfl 17 true 66 (.bool false) rfl rfl (by kernel_rfl) (by intro h; cases h) rfl
                · exact zsk rfl 17 true 66 (.bool false) rfl rfl (by kernel_rfl) (by intro h; cases h) rfl
                · exact zsk rfl 17 true 66 (.bool false) rfl rfl (by kernel_rfl) (by intro h; cases h) rfl
                · exact step_pick rfl ⟨_, rfl, by kernel_rfl⟩ _ _ _ false rfl (by kernel_rfl) (by kernel_rfl)
                · exact step_pick rfl ⟨_, rfl, by kernel_rfl⟩ _ _ _ false rfl (by kernel_rfl) (by kernel_rfl)
                · exact step_pick rfl trivial _ _ _ true rfl (by kernel_rfl) (by kernel_rfl)
                · exact zmv rfl trivial _ rfl (by kernel_rfl)
                · exact zmv rfl ⟨_, rfl, by kernel_rfl⟩ _ rfl (by kernel_rfl)
                · exact znc rfl ⟨_, rfl, by kernel_rfl⟩ _ _ _ rfl rfl rfl
                · exact zfa rfl ⟨_, rfl, by kernel_rfl⟩ _ _ _ _ rfl rfl (fun w hw => faD3 w _ _)
                · exact zld rfl ⟨_, rfl, by kernel_rfl⟩ _ _ _ rfl rfl (fun w hw => by rw [← h4_0]; exact load_bo hw.de.crb)
                · exact step_unOp rfl ⟨_, rfl, by kernel_rfl⟩ _ _ _ _ rfl rfl (fun w hw => rfl)
                · exact zmv rfl ⟨_, rfl, by kernel_rfl⟩ _ rfl (by kernel_rfl)
                · exact zsk rfl 30 true 79 (.bool false) rfl rfl (by kernel_rfl) (by intro h; cases h) rfl
                · exact zsk rfl 30 true 79 (.bool false) rfl rfl (by kernel_rfl) (by intro h; cases h) rfl
                · exact zsk rfl 30 true 79 (.bool false) rfl rfl (by kernel_rfl) (by intro h; cases h) rfl
                · exact step_pick rfl ⟨_, rfl, by kernel_rfl⟩ _ _ _ false rfl (by kernel_rfl) (by kernel_rfl)
                · exact step_pick rfl trivial _ _ _ false rfl (by kernel_rfl) (by kernel_rfl)
              intro W hW
              first | refine hK _ _ ?_ | refine (‹∀ (a : Act) (w : World), Code.wp Try.prog _ _ a w → _›) _ _ ?_ | skip
              simp only [finL, List.getD_cons_zero, List.getD_cons_succ, Nat.zero_add, Nat.reduceAdd, List.setIfInBounds_toArray, List.set_cons_zero, List.set_cons_succ]
              obtain ⟨W4, rfl⟩ : ∃ V, V = W := ⟨_, rfl⟩
              have hJ4 := hW
              clear hW
              have HR : rwbad D ⟨2, nd, li, ro, ta, of, du, he, un⟩ = false := by unfold rwbad; try simp only [h4_0]; try simp only [h4_1]; rfl
              have HO := hold_at (f := f) HP HR hm HX.out
              go_wp2
              cases h6_0 : u.up with
              | true =>
                cases h6_1 : (li != u.life) with
                | true =>
                  refine wp_region_any hmx ?_
                  refine zwp (fun i__ => ([(.pointer (some ⟨w.heap.size, 0, none⟩)), (.int .i64 2), (.bool true), (.bool true), (.pointer (some ⟨y, 2 + m * 6, none⟩)), (.pointer (some ⟨y, 2 + m * 6, none⟩)), (.pointer (some ⟨y, 2 + m * 6, none⟩)), (.bool true), (.bool false), (.bool false), (.pointer (some ⟨w.heap.size, 2, none⟩)), (.int .i64 li), (.pointer (some ⟨y, 2 + m * 6, none⟩)), (.pointer (some ⟨y, 2 + m * 6, none⟩)), (.pointer (some ⟨y, 2 + m * 6 + 1, none⟩)), (.int .i64 u.life), (.bool true), (.bool true), (.bool true)] : List Value).getD i__ undef) (fun V => JH w y w.heap.size n f D ⟨2, nd, li, ro, ta, of, du, he, un⟩ V) (by kernel_rfl) (hJ4.carry (Below.refl _ _).drew) ?_ ?_
                  · refine (sqc ?_ (sqc ?_ (sqc ?_ (sqc ?_ (sqc ?_ (sqc ?_ (sqc ?_ (sqc ?_ (sqc ?_ (sqc ?_ (sqc ?_ (sqc ?_ (sqc ?_ (sqc ?_ (sqc ?_ (sqc ?_ (sqc ?_ (sqc ?_ (sqc ?_ trivial)))))))))))))))))))
                    · exact zfa rfl trivial _ _ _ _ rfl rfl (fun w hw => faE0 w _ _)
                    · exact zld rfl trivial _ _ _ rfl rfl (fun w hw => load_in ((zca hw.bx 0).trans rfl))
                    · exact zbo rfl trivial _ _ _ _ _ _ _ rfl rfl rfl (fun w hw => bin_neq _ _ _)
                    · exact zmv rfl trivial _ rfl (by kernel_rfl)
                    · exact zmv rfl ⟨_, rfl, by kernel_rfl⟩ _ rfl (by kernel_rfl)
                    · exact znc rfl ⟨_, rfl, by kernel_rfl⟩ _ _ _ rfl rfl rfl
                    · exact zfa rfl ⟨_, rfl, by kernel_rfl⟩ _ _ _ _ rfl rfl (fun w hw => faM0 w _ _)
                    · exact zld rfl ⟨_, rfl, by kernel_rfl⟩ _ _ _ rfl rfl (fun w hw => by rw [← h6_0]; exact load_bo (hw.de.cn hm (j := 0) (by decide) rfl))
                    · exact step_unOp rfl ⟨_, rfl, by kernel_rfl⟩ _ _ _ _ rfl rfl (fun w hw => rfl)
                    · exact zmv rfl ⟨_, rfl, by kernel_rfl⟩ _ rfl (by kernel_rfl)
                    · exact zfa rfl ⟨_, rfl, by kernel_rfl⟩ _ _ _ _ rfl rfl (fun w hw => faE2 w _ _)
                    · exact zld rfl ⟨_, rfl, by kernel_rfl⟩ _ _ _ rfl rfl (fun w hw => load_in ((zca hw.bx 2).trans rfl))
                    · exact zmv rfl ⟨_, rfl, by kernel_rfl⟩ _ rfl (by kernel_rfl)
                    · exact znc rfl ⟨_, rfl, by kernel_rfl⟩ _ _ _ rfl rfl rfl
                    · exact zfa rfl ⟨_, rfl, by kernel_rfl⟩ _ _ _ _ rfl rfl (fun w hw => faM1 w _ _)
                    · exact zld rfl ⟨_, rfl, by kernel_rfl⟩ _ _ _ rfl rfl (fun w hw => load_in (hw.de.cn hm (j := 1) (by decide) rfl))
                    · exact zbo rfl ⟨_, rfl, by kernel_rfl⟩ _ _ _ _ _ _ _ rfl rfl rfl (fun w hw => by rw [← h6_1]; exact bin_neq _ _ _)
                    · exact step_pick rfl ⟨_, rfl, by kernel_rfl⟩ _ _ _ false rfl (by kernel_rfl) (by kernel_rfl)
                    · exact step_pick rfl trivial _ _ _ true rfl (by kernel_rfl) (by kernel_rfl)
                  intro W hW
                  first | refine hK _ _ ?_ | refine (‹∀ (a : Act) (w : World), Code.wp Try.prog _ _ a w → _›) _ _ ?_ | skip
                  simp only [finL, List.getD_cons_zero, List.getD_cons_succ, Nat.zero_add, Nat.reduceAdd, List.setIfInBounds_toArray, List.set_cons_zero, List.set_cons_succ]
                  go_wp2
                  go_ret
                  exact ho_no (by rw [HO]; unfold upbad; try simp only [h6_0]; try simp only [h6_1]; rfl) hW.tn
                | false =>
                  refine wp_region_any hmx ?_
                  refine zwp (fun i__ => ([(.pointer (some ⟨w.heap.size, 0, none⟩)), (.int .i64 2), (.bool true), (.bool true), (.pointer (some ⟨y, 2 + m * 6, none⟩)), (.pointer (some ⟨y, 2 + m * 6, none⟩)), (.pointer (some ⟨y, 2 + m * 6, none⟩)), (.bool true), (.bool false), (.bool false), (.pointer (some ⟨w.heap.size, 2, none⟩)), (.int .i64 li), (.pointer (some ⟨y, 2 + m * 6, none⟩)), (.pointer (some ⟨y, 2 + m * 6, none⟩)), (.pointer (some ⟨y, 2 + m * 6 + 1, none⟩)), (.int .i64 u.life), (.bool false), (.bool false), (.bool false)] : List Value).getD i__ undef) (fun V => JH w y w.heap.size n f D ⟨2, nd, li, ro, ta, of, du, he, un⟩ V) (by kernel_rfl) (hJ4.carry (Below.refl _ _).drew) ?_ ?_
                  · refine (sqc ?_ (sqc ?_ (sqc ?_ (sqc ?_ (sqc ?_ (sqc ?_ (sqc ?_ (sqc ?_ (sqc ?_ (sqc ?_ (sqc ?_ (sqc ?_ (sqc ?_ (sqc ?_ (sqc ?_ (sqc ?_ (sqc ?_ (sqc ?_ (sqc ?_ trivial)))))))))))))))))))
                    · exact zfa rfl trivial _ _ _ _ rfl rfl (fun w hw => faE0 w _ _)
                    · exact zld rfl trivial _ _ _ rfl rfl (fun w hw => load_in ((zca hw.bx 0).trans rfl))
                    · exact zbo rfl trivial _ _ _ _ _ _ _ rfl rfl rfl (fun w hw => bin_neq _ _ _)
                    · exact zmv rfl trivial _ rfl (by kernel_rfl)
                    · exact zmv rfl ⟨_, rfl, by kernel_rfl⟩ _ rfl (by kernel_rfl)
                    · exact znc rfl ⟨_, rfl, by kernel_rfl⟩ _ _ _ rfl rfl rfl
                    · exact zfa rfl ⟨_, rfl, by kernel_rfl⟩ _ _ _ _ rfl rfl (fun w hw => faM0 w _ _)
                    · exact zld rfl ⟨_, rfl, by kernel_rfl⟩ _ _ _ rfl rfl (fun w hw => by rw [← h6_0]; exact load_bo (hw.de.cn hm (j := 0) (by decide) rfl))
                    · exact step_unOp rfl ⟨_, rfl, by kernel_rfl⟩ _ _ _ _ rfl rfl (fun w hw => rfl)
                    · exact zmv rfl ⟨_, rfl, by kernel_rfl⟩ _ rfl (by kernel_rfl)
                    · exact zfa rfl ⟨_, rfl, by kernel_rfl⟩ _ _ _ _ rfl rfl (fun w hw => faE2 w _ _)
                    · exact zld rfl ⟨_, rfl, by kernel_rfl⟩ _ _ _ rfl rfl (fun w hw => load_in ((zca hw.bx 2).trans rfl))
                    · exact zmv rfl ⟨_, rfl, by kernel_rfl⟩ _ rfl (by kernel_rfl)
                    · exact znc rfl ⟨_, rfl, by kernel_rfl⟩ _ _ _ rfl rfl rfl
                    · exact zfa rfl ⟨_, rfl, by kernel_rfl⟩ _ _ _ _ rfl rfl (fun w hw => faM1 w _ _)
                    · exact zld rfl ⟨_, rfl, by kernel_rfl⟩ _ _ _ rfl rfl (fun w hw => load_in (hw.de.cn hm (j := 1) (by decide) rfl))
                    · exact zbo rfl ⟨_, rfl, by kernel_rfl⟩ _ _ _ _ _ _ _ rfl rfl rfl (fun w hw => by rw [← h6_1]; exact bin_neq _ _ _)
                    · exact step_pick rfl ⟨_, rfl, by kernel_rfl⟩ _ _ _ false rfl (by kernel_rfl) (by kernel_rfl)
                    · exact step_pick rfl trivial _ _ _ true rfl (by kernel_rfl) (by kernel_rfl)
                  intro W hW
                  first | refine hK _ _ ?_ | refine (‹∀ (a : Act) (w : World), Code.wp Try.prog _ _ a w → _›) _ _ ?_ | skip
                  simp only [finL, List.getD_cons_zero, List.getD_cons_succ, Nat.zero_add, Nat.reduceAdd, List.setIfInBounds_toArray, List.set_cons_zero, List.set_cons_succ]
                  obtain ⟨W6, rfl⟩ : ∃ V, V = W := ⟨_, rfl⟩
                  have hJ6 := hW
                  clear hW
                  have ck : W6.cell? ⟨w.heap.size, 0, none⟩ = some (.int .i64 2) := (zca hJ6.bx 0).trans rfl
                  have HO2 : hold n f D ⟨2, nd, li, ro, ta, of, du, he, un⟩ = dlw n f D ⟨2, nd, li, ro, ta, of, du, he, un⟩ m u := by rw [HO]; unfold upbad; try simp only [h6_0]; try simp only [h6_1]; rfl
                  go_wp2
                  cases h14_0 : decide (ro ≤ D.c.ro) with
                  | true =>
                    refine wp_region_any hmx ?_
                    refine zwp (fun i__ => ([(.pointer (some ⟨y, 0, none⟩)), (.pointer (some ⟨y, 0, none⟩)), (.pointer (some ⟨y, 602, none⟩)), (.bool true), (.bool true), (.pointer (some ⟨w.heap.size, 3, none⟩)), (.int .i64 ro), (.pointer (some ⟨y, 0, none⟩)), (.pointer (some ⟨y, 0, none⟩)), (.pointer (some ⟨y, 603, none⟩)), (.pointer (some ⟨y, 606, none⟩)), (.int .i64 D.c.ro), (.bool true), (.bool true), undef, undef, undef, (.bool true), (.bool true), (.bool true), undef, undef, undef, undef, undef, undef, undef, undef, undef, undef, undef, undef, undef, undef, (.bool true)] : List Value).getD i__ undef) (fun V => JH w y w.heap.size n f D ⟨2, nd, li, ro, ta, of, du, he, un⟩ V) (by kernel_rfl) (hJ6.carry (Below.refl _ _).drew) ?_ ?_
                    · refine (sqc ?_ (sqc ?_ (sqc ?_ (sqc ?_ (sqc ?_ (sqc ?_ (sqc ?_ (sqc ?_ (sqc ?_ (sqc ?_ (sqc ?_ (sqc ?_ (sqc ?_ (sqc ?_ (sqc ?_ (sqc ?_ (sqc ?_ (sqc ?_ (sqc ?_ (sqc ?_ (sqc ?_ (sqc ?_ (sqc ?_ (sqc ?_ (sqc ?_ (sqc ?_ (sqc ?_ (sqc ?_ (sqc ?_ (sqc ?_ (sqc ?_ (sqc ?_ (sqc ?_ (sqc ?_ (sqc ?_ trivial)))))))))))))))))))))))))))))))))))
                      · exact zmv rfl trivial _ rfl (by kernel_rfl)
                      · exact znc rfl trivial _ _ _ rfl rfl rfl
                      · exact zfa rfl trivial _ _ _ _ rfl rfl (fun w hw => faD3 w _ _)
                      · exact zld rfl trivial _ _ _ rfl rfl (fun w hw => by rw [← h4_0]; exact load_bo hw.de.crb)
                      · exact zmv rfl trivial _ rfl (by kernel_rfl)
                      · exact zfa rfl ⟨_, rfl, by kernel_rfl⟩ _ _ _ _ rfl rfl (fun w hw => faE3 w _ _)
                      · exact zld rfl ⟨_, rfl, by kernel_rfl⟩ _ _ _ rfl rfl (fun w hw => load_in ((zca hw.bx 3).trans rfl))
                      · exact zmv rfl ⟨_, rfl, by kernel_rfl⟩ _ rfl (by kernel_rfl)
                      · exact znc rfl ⟨_, rfl, by kernel_rfl⟩ _ _ _ rfl rfl rfl
                      · exact zfa rfl ⟨_, rfl, by kernel_rfl⟩ _ _ _ _ rfl rfl (fun w hw => faD4 w _ _)
                      · exact zfa rfl ⟨_, rfl, by kernel_rfl⟩ _ _ _ _ rfl rfl (fun w hw => faE3 w _ _)
                      · exact zld rfl ⟨_, rfl, by kernel_rfl⟩ _ _ _ rfl rfl (fun w hw => load_in (hw.de.cc (j := 3) (by decide) rfl))
                      · exact zbo rfl ⟨_, rfl, by kernel_rfl⟩ _ _ _ _ _ _ _ rfl rfl rfl (fun w hw => by rw [← h14_0]; exact bin_leq _ _ _)
                      · exact zmv rfl ⟨_, rfl, by kernel_rfl⟩ _ rfl (by kernel_rfl)
                      · exact zsk rfl 13 false 192 (.bool true) rfl rfl (by kernel_rfl) (by intro h; cases h) rfl
                      · exact zsk rfl 13 false 192 (.bool true) rfl rfl (by kernel_rfl) (by intro h; cases h) rfl
                      · exact zsk rfl 13 false 192 (.bool true) rfl rfl (by kernel_rfl) (by intro h; cases h) rfl
                      · exact step_pick rfl ⟨_, rfl, by kernel_rfl⟩ _ _ _ true rfl (by kernel_rfl) (by kernel_rfl)
                      · exact step_pick rfl trivial _ _ _ true rfl (by kernel_rfl) (by kernel_rfl)
                      · exact zmv rfl trivial _ rfl (by kernel_rfl)
                      · exact zsk rfl 19 false 198 (.bool true) rfl rfl (by kernel_rfl) (by intro h; cases h) rfl
                      · exact zsk rfl 19 false 198 (.bool true) rfl rfl (by kernel_rfl) (by intro h; cases h) rfl
                      · exact zsk rfl 19 false 198 (.bool true) rfl rfl (by kernel_rfl) (by intro h; cases h) rfl
                      · exact zsk rfl 19 false 198 (.bool true) rfl rfl (by kernel_rfl) (by intro h; cases h) rfl
                      · exact zsk rfl 19 false 198 (.bool true) rfl rfl (by kernel_rfl) (by intro h; cases h) rfl
                      · exact zsk rfl 19 false 198 (.bool true) rfl rfl (by kernel_rfl) (by intro h; cases h) rfl
                      · exact zsk rfl 25 true 204 undef rfl rfl (by kernel_rfl) (by intro h; cases h) rfl
                      · exact zsk rfl 25 true 204 undef rfl rfl (by kernel_rfl) (by intro h; cases h) rfl
                      · exact zsk rfl 25 true 204 undef rfl rfl (by kernel_rfl) (by intro h; cases h) rfl
                      · exact zsk rfl 25 true 204 undef rfl rfl (by kernel_rfl) (by intro h; cases h) rfl
                      · exact zsk rfl 25 true 204 undef rfl rfl (by kernel_rfl) (by intro h; cases h) rfl
                      · exact zsk rfl 25 true 204 undef rfl rfl (by kernel_rfl) (by intro h; cases h) rfl
                      · exact zsk rfl 25 true 204 undef rfl rfl (by kernel_rfl) (by intro h; cases h) rfl
                      · exact zsk rfl 19 false 198 (.bool true) rfl rfl (by kernel_rfl) (by intro h; cases h) rfl
                      · exact step_pick rfl trivial _ _ _ true rfl (by kernel_rfl) (by kernel_rfl)
                    intro W hW
                    first | refine hK _ _ ?_ | refine (‹∀ (a : Act) (w : World), Code.wp Try.prog _ _ a w → _›) _ _ ?_ | skip
                    simp only [finL, List.getD_cons_zero, List.getD_cons_succ, Nat.zero_add, Nat.reduceAdd, List.setIfInBounds_toArray, List.set_cons_zero, List.set_cons_succ]
                    go_wp2
                    go_ret
                    exact ho_no (by rw [HO2]; unfold dlw dl2; try simp only [h4_0]; try simp only [h14_0]; rfl) hW.tn
                  | false =>
                    cases h14_1 : decide (ro > 1099511627775) with
                    | true =>
                      refine wp_region_any hmx ?_
                      refine zwp (fun i__ => ([(.pointer (some ⟨y, 0, none⟩)), (.pointer (some ⟨y, 0, none⟩)), (.pointer (some ⟨y, 602, none⟩)), (.bool true), (.bool true), (.pointer (some ⟨w.heap.size, 3, none⟩)), (.int .i64 ro), (.pointer (some ⟨y, 0, none⟩)), (.pointer (some ⟨y, 0, none⟩)), (.pointer (some ⟨y, 603, none⟩)), (.pointer (some ⟨y, 606, none⟩)), (.int .i64 D.c.ro), (.bool false), (.bool false), (.pointer (some ⟨w.heap.size, 3, none⟩)), (.int .i64 ro), (.bool true), (.bool true), (.bool true), (.bool true), undef, undef, undef, undef, undef, undef, undef, undef, undef, undef, undef, undef, undef, undef, (.bool true)] : List Value).getD i__ undef) (fun V => JH w y w.heap.size n f D ⟨2, nd, li, ro, ta, of, du, he, un⟩ V) (by kernel_rfl) (hJ6.carry (Below.refl _ _).drew) ?_ ?_
                      · refine (sqc ?_ (sqc ?_ (sqc ?_ (sqc ?_ (sqc ?_ (sqc ?_ (sqc ?_ (sqc ?_ (sqc ?_ (sqc ?_ (sqc ?_ (sqc ?_ (sqc ?_ (sqc ?_ (sqc ?_ (sqc ?_ (sqc ?_ (sqc ?_ (sqc ?_ (sqc ?_ (sqc ?_ (sqc ?_ (sqc ?_ (sqc ?_ (sqc ?_ (sqc ?_ (sqc ?_ (sqc ?_ (sqc ?_ (sqc ?_ (sqc ?_ (sqc ?_ (sqc ?_ (sqc ?_ (sqc ?_ trivial)))))))))))))))))))))))))))))))))))
                        · exact zmv rfl trivial _ rfl (by kernel_rfl)
                        · exact znc rfl trivial _ _ _ rfl rfl rfl
                        · exact zfa rfl trivial _ _ _ _ rfl rfl (fun w hw => faD3 w _ _)
                        · exact zld rfl trivial _ _ _ rfl rfl (fun w hw => by rw [← h4_0]; exact load_bo hw.de.crb)
                        · exact zmv rfl trivial _ rfl (by kernel_rfl)
                        · exact zfa rfl ⟨_, rfl, by kernel_rfl⟩ _ _ _ _ rfl rfl (fun w hw => faE3 w _ _)
                        · exact zld rfl ⟨_, rfl, by kernel_rfl⟩ _ _ _ rfl rfl (fun w hw => load_in ((zca hw.bx 3).trans rfl))
                        · exact zmv rfl ⟨_, rfl, by kernel_rfl⟩ _ rfl (by kernel_rfl)
                        · exact znc rfl ⟨_, rfl, by kernel_rfl⟩ _ _ _ rfl rfl rfl
                        · exact zfa rfl ⟨_, rfl, by kernel_rfl⟩ _ _ _ _ rfl rfl (fun w hw => faD4 w _ _)
                        · exact zfa rfl ⟨_, rfl, by kernel_rfl⟩ _ _ _ _ rfl rfl (fun w hw => faE3 w _ _)
                        · exact zld rfl ⟨_, rfl, by kernel_rfl⟩ _ _ _ rfl rfl (fun w hw => load_in (hw.de.cc (j := 3) (by decide) rfl))
                        · exact zbo rfl ⟨_, rfl, by kernel_rfl⟩ _ _ _ _ _ _ _ rfl rfl rfl (fun w hw => by rw [← h14_0]; exact bin_leq _ _ _)
                        · exact zmv rfl ⟨_, rfl, by kernel_rfl⟩ _ rfl (by kernel_rfl)
                        · exact zfa rfl ⟨_, rfl, by kernel_rfl⟩ _ _ _ _ rfl rfl (fun w hw => faE3 w _ _)
                        · exact zld rfl ⟨_, rfl, by kernel_rfl⟩ _ _ _ rfl rfl (fun w hw => load_in ((zca hw.bx 3).trans rfl))
                        · exact zbo rfl ⟨_, rfl, by kernel_rfl⟩ _ _ _ _ _ _ _ rfl rfl rfl (fun w hw => by rw [← h14_1]; exact bin_gtr _ _ _)
                        · exact step_pick rfl ⟨_, rfl, by kernel_rfl⟩ _ _ _ false rfl (by kernel_rfl) (by kernel_rfl)
                        · exact step_pick rfl trivial _ _ _ true rfl (by kernel_rfl) (by kernel_rfl)
                        · exact zmv rfl trivial _ rfl (by kernel_rfl)
                        · exact zsk rfl 19 false 198 (.bool true) rfl rfl (by kernel_rfl) (by intro h; cases h) rfl
                        · exact zsk rfl 19 false 198 (.bool true) rfl rfl (by kernel_rfl) (by intro h; cases h) rfl
                        · exact zsk rfl 19 false 198 (.bool true) rfl rfl (by kernel_rfl) (by intro h; cases h) rfl
                        · exact zsk rfl 19 false 198 (.bool true) rfl rfl (by kernel_rfl) (by intro h; cases h) rfl
                        · exact zsk rfl 19 false 198 (.bool true) rfl rfl (by kernel_rfl) (by intro h; cases h) rfl
                        · exact zsk rfl 19 false 198 (.bool true) rfl rfl (by kernel_rfl) (by intro h; cases h) rfl
                        · exact zsk rfl 25 true 204 undef rfl rfl (by kernel_rfl) (by intro h; cases h) rfl
                        · exact zsk rfl 25 true 204 undef rfl rfl (by kernel_rfl) (by intro h; cases h) rfl
                        · exact zsk rfl 25 true 204 undef rfl rfl (by kernel_rfl) (by intro h; cases h) rfl
                        · exact zsk rfl 25 true 204 undef rfl rfl (by kernel_rfl) (by intro h; cases h) rfl
                        · exact zsk rfl 25 true 204 undef rfl rfl (by kernel_rfl) (by intro h; cases h) rfl
                        · exact zsk rfl 25 true 204 undef rfl rfl (by kernel_rfl) (by intro h; cases h) rfl
                        · exact zsk rfl 25 true 204 undef rfl rfl (by kernel_rfl) (by intro h; cases h) rfl
                        · exact zsk rfl 19 false 198 (.bool true) rfl rfl (by kernel_rfl) (by intro h; cases h) rfl
                        · exact step_pick rfl trivial _ _ _ true rfl (by kernel_rfl) (by kernel_rfl)
                      intro W hW
                      first | refine hK _ _ ?_ | refine (‹∀ (a : Act) (w : World), Code.wp Try.prog _ _ a w → _›) _ _ ?_ | skip
                      simp only [finL, List.getD_cons_zero, List.getD_cons_succ, Nat.zero_add, Nat.reduceAdd, List.setIfInBounds_toArray, List.set_cons_zero, List.set_cons_succ]
                      go_wp2
                      go_ret
                      exact ho_no (by rw [HO2]; unfold dlw dl2; try simp only [h4_0]; try simp only [h14_0]; try simp only [h14_1]; rfl) hW.tn
                    | false =>
                      refine wp_region_any hmx ?_
                      refine zwp (fun i__ => ([(.pointer (some ⟨y, 0, none⟩)), (.pointer (some ⟨y, 0, none⟩)), (.pointer (some ⟨y, 602, none⟩)), (.bool true), (.bool true), (.pointer (some ⟨w.heap.size, 3, none⟩)), (.int .i64 ro), (.pointer (some ⟨y, 0, none⟩)), (.pointer (some ⟨y, 0, none⟩)), (.pointer (some ⟨y, 603, none⟩)), (.pointer (some ⟨y, 606, none⟩)), (.int .i64 D.c.ro), (.bool false), (.bool false), (.pointer (some ⟨w.heap.size, 3, none⟩)), (.int .i64 ro), (.bool false), (.bool false), (.bool false), (.bool false), (.pointer (some ⟨y, 0, none⟩)), (.pointer (some ⟨y, 0, none⟩)), (.pointer (some ⟨y, 602, none⟩)), (.bool true), (.bool false), (.bool false), undef, undef, undef, undef, undef, undef, undef, (.bool false), (.bool false)] : List Value).getD i__ undef) (fun V => JH w y w.heap.size n f D ⟨2, nd, li, ro, ta, of, du, he, un⟩ V) (by kernel_rfl) (hJ6.carry (Below.refl _ _).drew) ?_ ?_
                      · refine (sqc ?_ (sqc ?_ (sqc ?_ (sqc ?_ (sqc ?_ (sqc ?_ (sqc ?_ (sqc ?_ (sqc ?_ (sqc ?_ (sqc ?_ (sqc ?_ (sqc ?_ (sqc ?_ (sqc ?_ (sqc ?_ (sqc ?_ (sqc ?_ (sqc ?_ (sqc ?_ (sqc ?_ (sqc ?_ (sqc ?_ (sqc ?_ (sqc ?_ (sqc ?_ (sqc ?_ (sqc ?_ (sqc ?_ (sqc ?_ (sqc ?_ (sqc ?_ (sqc ?_ (sqc ?_ (sqc ?_ trivial)))))))))))))))))))))))))))))))))))
                        · exact zmv rfl trivial _ rfl (by kernel_rfl)
                        · exact znc rfl trivial _ _ _ rfl rfl rfl
                        · exact zfa rfl trivial _ _ _ _ rfl rfl (fun w hw => faD3 w _ _)
                        · exact zld rfl trivial _ _ _ rfl rfl (fun w hw => by rw [← h4_0]; exact load_bo hw.de.crb)
                        · exact zmv rfl trivial _ rfl (by kernel_rfl)
                        · exact zfa rfl ⟨_, rfl, by kernel_rfl⟩ _ _ _ _ rfl rfl (fun w hw => faE3 w _ _)
                        · exact zld rfl ⟨_, rfl, by kernel_rfl⟩ _ _ _ rfl rfl (fun w hw => load_in ((zca hw.bx 3).trans rfl))
                        · exact zmv rfl ⟨_, rfl, by kernel_rfl⟩ _ rfl (by kernel_rfl)
                        · exact znc rfl ⟨_, rfl, by kernel_rfl⟩ _ _ _ rfl rfl rfl
                        · exact zfa rfl ⟨_, rfl, by kernel_rfl⟩ _ _ _ _ rfl rfl (fun w hw => faD4 w _ _)
                        · exact zfa rfl ⟨_, rfl, by kernel_rfl⟩ _ _ _ _ rfl rfl (fun w hw => faE3 w _ _)
                        · exact zld rfl ⟨_, rfl, by kernel_rfl⟩ _ _ _ rfl rfl (fun w hw => load_in (hw.de.cc (j := 3) (by decide) rfl))
                        · exact zbo rfl ⟨_, rfl, by kernel_rfl⟩ _ _ _ _ _ _ _ rfl rfl rfl (fun w hw => by rw [← h14_0]; exact bin_leq _ _ _)
                        · exact zmv rfl ⟨_, rfl, by kernel_rfl⟩ _ rfl (by kernel_rfl)
                        · exact zfa rfl ⟨_, rfl, by kernel_rfl⟩ _ _ _ _ rfl rfl (fun w hw => faE3 w _ _)
                        · exact zld rfl ⟨_, rfl, by kernel_rfl⟩ _ _ _ rfl rfl (fun w hw => load_in ((zca hw.bx 3).trans rfl))
                        · exact zbo rfl ⟨_, rfl, by kernel_rfl⟩ _ _ _ _ _ _ _ rfl rfl rfl (fun w hw => by rw [← h14_1]; exact bin_gtr _ _ _)
                        · exact step_pick rfl ⟨_, rfl, by kernel_rfl⟩ _ _ _ false rfl (by kernel_rfl) (by kernel_rfl)
                        · exact step_pick rfl trivial _ _ _ true rfl (by kernel_rfl) (by kernel_rfl)
                        · exact zmv rfl trivial _ rfl (by kernel_rfl)
                        · exact zmv rfl ⟨_, rfl, by kernel_rfl⟩ _ rfl (by kernel_rfl)
                        · exact znc rfl ⟨_, rfl, by kernel_rfl⟩ _ _ _ rfl rfl rfl
                        · exact zfa rfl ⟨_, rfl, by kernel_rfl⟩ _ _ _ _ rfl rfl (fun w hw => faD3 w _ _)
                        · exact zld rfl ⟨_, rfl, by kernel_rfl⟩ _ _ _ rfl rfl (fun w hw => by rw [← h4_0]; exact load_bo hw.de.crb)
                        · exact step_unOp rfl ⟨_, rfl, by kernel_rfl⟩ _ _ _ _ rfl rfl (fun w hw => rfl)
                        · exact zmv rfl ⟨_, rfl, by kernel_rfl⟩ _ rfl (by kernel_rfl)
                        · exact zsk rfl 25 true 204 (.bool false) rfl rfl (by kernel_rfl) (by intro h; cases h) rfl
                        · exact zsk rfl 25 true 204 (.bool false) rfl rfl (by kernel_rfl) (by intro h; cases h) rfl
                        · exact zsk rfl 25 true 204 (.bool false) rfl rfl (by kernel_rfl) (by intro h; cases h) rfl
                        · exact zsk rfl 25 true 204 (.bool false) rfl rfl (by kernel_rfl) (by intro h; cases h) rfl
                        · exact zsk rfl 25 true 204 (.bool false) rfl rfl (by kernel_rfl) (by intro h; cases h) rfl
                        · exact zsk rfl 25 true 204 (.bool false) rfl rfl (by kernel_rfl) (by intro h; cases h) rfl
                        · exact zsk rfl 25 true 204 (.bool false) rfl rfl (by kernel_rfl) (by intro h; cases h) rfl
                        · exact step_pick rfl ⟨_, rfl, by kernel_rfl⟩ _ _ _ false rfl (by kernel_rfl) (by kernel_rfl)
                        · exact step_pick rfl trivial _ _ _ false rfl (by kernel_rfl) (by kernel_rfl)
                      intro W hW
                      first | refine hK _ _ ?_ | refine (‹∀ (a : Act) (w : World), Code.wp Try.prog _ _ a w → _›) _ _ ?_ | skip
                      simp only [finL, List.getD_cons_zero, List.getD_cons_succ, Nat.zero_add, Nat.reduceAdd, List.setIfInBounds_toArray, List.set_cons_zero, List.set_cons_succ]
                      obtain ⟨W7, rfl⟩ : ∃ V, V = W := ⟨_, rfl⟩
                      have hJ7 := hW
                      clear hW
                      cases hak : decide (ro > u.ask) with
                      | true =>
                        have HF : Hid (hold n f D ⟨2, nd, li, ro, ta, of, du, he, un⟩ = some ⟨D.ds.set m { u with op := ro, ask := ro }, false, D.c, D.la⟩) := by rw [HO2]; unfold dlw dl2; try simp only [hak]; try simp only [h4_0]; try simp only [h14_0]; try simp only [h14_1]; rfl
                        have cn3 : W7.cell? ⟨y, 2 + m * 6 + 3, none⟩ = some (.int .i64 u.op) := hJ7.de.cn hm (j := 3) (by decide) rfl
                        have zn3 := hJ7.de.frz (2 + m * 6 + 3)
                        have cq3 : W7.cell? ⟨w.heap.size, 3, none⟩ = some (.int .i64 ro) := (zca hJ7.bx 3).trans rfl
                        have hA := hJ7.put _ _ (hJ7.de.nput (u' := { u with op := ro }) (v := .int .i64 ro) hm (j := 3) (by decide) rfl)
                        have hm2 : (D.ds.set m { u with op := ro })[m]? = some { u with op := ro } := by simp [h.ln, hml]
                        obtain ⟨D2, hD2⟩ : ∃ D2 : Ds, D2 = { D with ds := D.ds.set m { u with op := ro } } := ⟨_, rfl⟩
                        rw [← hD2] at hA
                        have hm3 : D2.ds[m]? = some { u with op := ro } := by rw [hD2]; exact hm2
                        have HA : Hid (JH w y w.heap.size n f D2 ⟨2, nd, li, ro, ta, of, du, he, un⟩ (W7.setCell ⟨y, 2 + m * 6 + 3, none⟩ (.int .i64 ro))) := hA
                        clear hA
                        go_wp2
                        refine wp_region_any hmx ?_
                        refine zwp (fun i__ => ([(.pointer (some ⟨w.heap.size, 3, none⟩)), (.int .i64 ro), (.pointer (some ⟨y, 2 + m * 6, none⟩)), (.pointer (some ⟨y, 2 + m * 6, none⟩)), (.pointer (some ⟨y, 2 + m * 6 + 4, none⟩)), (.int .i64 u.ask), (.bool true)] : List Value).getD i__ undef) (fun V => JH w y w.heap.size n f D2 ⟨2, nd, li, ro, ta, of, du, he, un⟩ V) (by kernel_rfl) (HA.out.carry (Below.refl _ _).drew) ?_ ?_
                        · refine (sqc ?_ (sqc ?_ (sqc ?_ (sqc ?_ (sqc ?_ (sqc ?_ (sqc ?_ trivial)))))))
                          · exact zfa rfl trivial _ _ _ _ rfl rfl (fun w hw => faE3 w _ _)
                          · exact zld rfl trivial _ _ _ rfl rfl (fun w hw => load_in ((zca hw.bx 3).trans rfl))
                          · exact zmv rfl trivial _ rfl (by kernel_rfl)
                          · exact znc rfl trivial _ _ _ rfl rfl rfl
                          · exact zfa rfl trivial _ _ _ _ rfl rfl (fun w hw => faM4 w _ _)
                          · exact zld rfl trivial _ _ _ rfl rfl (fun w hw => load_in (hw.de.cn hm3 (j := 4) (by decide) rfl))
                          · exact zbo rfl trivial _ _ _ _ _ _ _ rfl rfl rfl (fun w hw => by rw [← hak]; exact bin_gtr _ _ _)
                        intro W hW
                        first | refine hK _ _ ?_ | refine (‹∀ (a : Act) (w : World), Code.wp Try.prog _ _ a w → _›) _ _ ?_ | skip
                        simp only [finL, List.getD_cons_zero, List.getD_cons_succ, Nat.zero_add, Nat.reduceAdd, List.setIfInBounds_toArray, List.set_cons_zero, List.set_cons_succ]
                        obtain ⟨W8, rfl⟩ : ∃ V, V = W := ⟨_, rfl⟩
                        have hJ8 := hW
                        clear hW
                        have cr : W8.cell? ⟨y, 602, none⟩ = some (.bool D2.rb) := hJ8.de.crb
                        have zr := hJ8.de.frz 602
                        have ca : W8.cell? ⟨y, 2 + m * 6 + 4, none⟩ = some (.int .i64 u.ask) := hJ8.de.cn hm3 (j := 4) (by decide) rfl
                        have za := hJ8.de.frz (2 + m * 6 + 4)
                        have cq : W8.cell? ⟨w.heap.size, 3, none⟩ = some (.int .i64 ro) := (zca hJ8.bx 3).trans rfl
                        have hB := hJ8.put _ _ (hJ8.de.nput (u' := { u with op := ro, ask := ro }) (v := .int .i64 ro) hm3 (j := 4) (by decide) rfl)
                        have cr2 : (W8.setCell ⟨y, 2 + m * 6 + 4, none⟩ (.int .i64 ro)).cell? ⟨y, 602, none⟩ = some (.bool D2.rb) := hB.de.crb
                        have zr2 := hB.de.frz 602
                        have hfin := hB.de.rput false
                        have htn := hB.tn.trans (Tn.put _ y y 602 (.bool false))
                        clear hB
                        clear hJ0 hJ1 hJ3 hJ4 HO HO2 HP HR h hJ6 hJ7 hJ8 HA
                        go_wp2
                        go_ret
                        exact ho_yes HF.out (by rw [hD2] at hfin; simpa using hfin) htn
                      | false =>
                        have HF : Hid (hold n f D ⟨2, nd, li, ro, ta, of, du, he, un⟩ = some ⟨D.ds.set m { u with op := ro }, false, D.c, D.la⟩) := by rw [HO2]; unfold dlw dl2; try simp only [hak]; try simp only [h4_0]; try simp only [h14_0]; try simp only [h14_1]; rfl
                        have cn3 : W7.cell? ⟨y, 2 + m * 6 + 3, none⟩ = some (.int .i64 u.op) := hJ7.de.cn hm (j := 3) (by decide) rfl
                        have zn3 := hJ7.de.frz (2 + m * 6 + 3)
                        have cq3 : W7.cell? ⟨w.heap.size, 3, none⟩ = some (.int .i64 ro) := (zca hJ7.bx 3).trans rfl
                        have hA := hJ7.put _ _ (hJ7.de.nput (u' := { u with op := ro }) (v := .int .i64 ro) hm (j := 3) (by decide) rfl)
                        have hm2 : (D.ds.set m { u with op := ro })[m]? = some { u with op := ro } := by simp [h.ln, hml]
                        obtain ⟨D2, hD2⟩ : ∃ D2 : Ds, D2 = { D with ds := D.ds.set m { u with op := ro } } := ⟨_, rfl⟩
                        rw [← hD2] at hA
                        have hm3 : D2.ds[m]? = some { u with op := ro } := by rw [hD2]; exact hm2
                        have HA : Hid (JH w y w.heap.size n f D2 ⟨2, nd, li, ro, ta, of, du, he, un⟩ (W7.setCell ⟨y, 2 + m * 6 + 3, none⟩ (.int .i64 ro))) := hA
                        clear hA
                        go_wp2
                        refine wp_region_any hmx ?_
                        refine zwp (fun i__ => ([(.pointer (some ⟨w.heap.size, 3, none⟩)), (.int .i64 ro), (.pointer (some ⟨y, 2 + m * 6, none⟩)), (.pointer (some ⟨y, 2 + m * 6, none⟩)), (.pointer (some ⟨y, 2 + m * 6 + 4, none⟩)), (.int .i64 u.ask), (.bool false)] : List Value).getD i__ undef) (fun V => JH w y w.heap.size n f D2 ⟨2, nd, li, ro, ta, of, du, he, un⟩ V) (by kernel_rfl) (HA.out.carry (Below.refl _ _).drew) ?_ ?_
                        · refine (sqc ?_ (sqc ?_ (sqc ?_ (sqc ?_ (sqc ?_ (sqc ?_ (sqc ?_ trivial)))))))
                          · exact zfa rfl trivial _ _ _ _ rfl rfl (fun w hw => faE3 w _ _)
                          · exact zld rfl trivial _ _ _ rfl rfl (fun w hw => load_in ((zca hw.bx 3).trans rfl))
                          · exact zmv rfl trivial _ rfl (by kernel_rfl)
                          · exact znc rfl trivial _ _ _ rfl rfl rfl
                          · exact zfa rfl trivial _ _ _ _ rfl rfl (fun w hw => faM4 w _ _)
                          · exact zld rfl trivial _ _ _ rfl rfl (fun w hw => load_in (hw.de.cn hm3 (j := 4) (by decide) rfl))
                          · exact zbo rfl trivial _ _ _ _ _ _ _ rfl rfl rfl (fun w hw => by rw [← hak]; exact bin_gtr _ _ _)
                        intro W hW
                        first | refine hK _ _ ?_ | refine (‹∀ (a : Act) (w : World), Code.wp Try.prog _ _ a w → _›) _ _ ?_ | skip
                        simp only [finL, List.getD_cons_zero, List.getD_cons_succ, Nat.zero_add, Nat.reduceAdd, List.setIfInBounds_toArray, List.set_cons_zero, List.set_cons_succ]
                        obtain ⟨W8, rfl⟩ : ∃ V, V = W := ⟨_, rfl⟩
                        have hJ8 := hW
                        clear hW
                        have cr : W8.cell? ⟨y, 602, none⟩ = some (.bool D2.rb) := hJ8.de.crb
                        have zr := hJ8.de.frz 602
                        have hfin := hJ8.de.rput false
                        have htn := hJ8.tn.trans (Tn.put W8 y y 602 (.bool false))
                        clear hJ0 hJ1 hJ3 hJ4 HO HO2 HP HR h hJ6 hJ7 hJ8 HA
                        go_wp2
                        go_ret
                        exact ho_yes HF.out (by rw [hD2] at hfin; simpa using hfin) htn
              | false =>
                refine wp_region_any hmx ?_
                refine zwp (fun i__ => ([(.pointer (some ⟨w.heap.size, 0, none⟩)), (.int .i64 2), (.bool true), (.bool true), (.pointer (some ⟨y, 2 + m * 6, none⟩)), (.pointer (some ⟨y, 2 + m * 6, none⟩)), (.pointer (some ⟨y, 2 + m * 6, none⟩)), (.bool false), (.bool true), (.bool true), undef, undef, undef, undef, undef, undef, undef, (.bool true), (.bool true)] : List Value).getD i__ undef) (fun V => JH w y w.heap.size n f D ⟨2, nd, li, ro, ta, of, du, he, un⟩ V) (by kernel_rfl) (hJ4.carry (Below.refl _ _).drew) ?_ ?_
                · refine (sqc ?_ (sqc ?_ (sqc ?_ (sqc ?_ (sqc ?_ (sqc ?_ (sqc ?_ (sqc ?_ (sqc ?_ (sqc ?_ (sqc ?_ (sqc ?_ (sqc ?_ (sqc ?_ (sqc ?_ (sqc ?_ (sqc ?_ (sqc ?_ (sqc ?_ trivial)))))))))))))))))))
                  · exact zfa rfl trivial _ _ _ _ rfl rfl (fun w hw => faE0 w _ _)
                  · exact zld rfl trivial _ _ _ rfl rfl (fun w hw => load_in ((zca hw.bx 0).trans rfl))
                  · exact zbo rfl trivial _ _ _ _ _ _ _ rfl rfl rfl (fun w hw => bin_neq _ _ _)
                  · exact zmv rfl trivial _ rfl (by kernel_rfl)
                  · exact zmv rfl ⟨_, rfl, by kernel_rfl⟩ _ rfl (by kernel_rfl)
                  · exact znc rfl ⟨_, rfl, by kernel_rfl⟩ _ _ _ rfl rfl rfl
                  · exact zfa rfl ⟨_, rfl, by kernel_rfl⟩ _ _ _ _ rfl rfl (fun w hw => faM0 w _ _)
                  · exact zld rfl ⟨_, rfl, by kernel_rfl⟩ _ _ _ rfl rfl (fun w hw => by rw [← h6_0]; exact load_bo (hw.de.cn hm (j := 0) (by decide) rfl))
                  · exact step_unOp rfl ⟨_, rfl, by kernel_rfl⟩ _ _ _ _ rfl rfl (fun w hw => rfl)
                  · exact zmv rfl ⟨_, rfl, by kernel_rfl⟩ _ rfl (by kernel_rfl)
                  · exact zsk rfl 9 false 94 (.bool true) rfl rfl (by kernel_rfl) (by intro h; cases h) rfl
                  · exact zsk rfl 9 false 94 (.bool true) rfl rfl (by kernel_rfl) (by intro h; cases h) rfl
                  · exact zsk rfl 9 false 94 (.bool true) rfl rfl (by kernel_rfl) (by intro h; cases h) rfl
                  · exact zsk rfl 9 false 94 (.bool true) rfl rfl (by kernel_rfl) (by intro h; cases h) rfl
                  · exact zsk rfl 9 false 94 (.bool true) rfl rfl (by kernel_rfl) (by intro h; cases h) rfl
                  · exact zsk rfl 9 false 94 (.bool true) rfl rfl (by kernel_rfl) (by intro h; cases h) rfl
                  · exact zsk rfl 9 false 94 (.bool true) rfl rfl (by kernel_rfl) (by intro h; cases h) rfl
                  · exact step_pick rfl ⟨_, rfl, by kernel_rfl⟩ _ _ _ true rfl (by kernel_rfl) (by kernel_rfl)
                  · exact step_pick rfl trivial _ _ _ true rfl (by kernel_rfl) (by kernel_rfl)
                intro W hW
                first | refine hK _ _ ?_ | refine (‹∀ (a : Act) (w : World), Code.wp Try.prog _ _ a w → _›) _ _ ?_ | skip
                simp only [finL, List.getD_cons_zero, List.getD_cons_succ, Nat.zero_add, Nat.reduceAdd, List.setIfInBounds_toArray, List.set_cons_zero, List.set_cons_succ]
                go_wp2
                go_ret
                exact ho_no (by rw [HO]; unfold upbad; try simp only [h6_0]; rfl) hW.tn
          | false =>
            refine wp_region_any hmx ?_
            refine zwp (fun i__ => ([(.pointer (some ⟨y, 0, none⟩)), (.pointer (some ⟨y, 0, none⟩)), (.pointer (some ⟨y, 602, none⟩)), (.bool false), (.bool false), undef, undef, undef, undef, undef, undef, undef, undef, undef, undef, undef, undef, undef, undef, undef, undef, undef, undef, (.bool false), (.bool false), (.pointer (some ⟨y, 0, none⟩)), (.pointer (some ⟨y, 0, none⟩)), (.pointer (some ⟨y, 602, none⟩)), (.bool false), (.bool true), (.bool true), (.pointer (some ⟨w.heap.size, 0, none⟩)), (.int .i64 2), (.bool false), (.bool false), (.bool false)] : List Value).getD i__ undef) (fun V => JH w y w.heap.size n f D ⟨2, nd, li, ro, ta, of, du, he, un⟩ V) (by kernel_rfl) (hJ3.carry (Below.refl _ _).drew) ?_ ?_
            · refine (sqc ?_ (sqc ?_ (sqc ?_ (sqc ?_ (sqc ?_ (sqc ?_ (sqc ?_ (sqc ?_ (sqc ?_ (sqc ?_ (sqc ?_ (sqc ?_ (sqc ?_ (sqc ?_ (sqc ?_ (sqc ?_ (sqc ?_ (sqc ?_ (sqc ?_ (sqc ?_ (sqc ?_ (sqc ?_ (sqc ?_ (sqc ?_ (sqc ?_ (sqc ?_ (sqc ?_ (sqc ?_ (sqc ?_ (sqc ?_ (sqc ?_ (sqc ?_ (sqc ?_ (sqc ?_ (sqc ?_ (sqc ?_ trivial))))))))))))))))))))))))))))))))))))
              · exact zmv rfl trivial _ rfl (by kernel_rfl)
              · exact znc rfl trivial _ _ _ rfl rfl rfl
              · exact zfa rfl trivial _ _ _ _ rfl rfl (fun w hw => faD3 w _ _)
              · exact zld rfl trivial _ _ _ rfl rfl (fun w hw => by rw [← h4_0]; exact load_bo hw.de.crb)
              · exact zmv rfl trivial _ rfl (by kernel_rfl)
              · exact zsk rfl 4 true 53 (.bool false) rfl rfl (by kernel_rfl) (by intro h; cases h) rfl
              · exact zsk rfl 4 true 53 (.bool false) rfl rfl (by kernel_rfl) (by intro h; cases h) rfl
              · exact zsk rfl 4 true 53 (.bool false) rfl rfl (by kernel_rfl) (by intro h; cases h) rfl
              · exact zsk rfl 4 true 53 (.bool false) rfl rfl (by kernel_rfl) (by intro h; cases h) rfl
              · exact zsk rfl 4 true 53 (.bool false) rfl rfl (by kernel_rfl) (by intro h; cases h) rfl
              · exact zsk rfl 4 true 53 (.bool false) rfl rfl (by kernel_rfl) (by intro h; cases h) rfl
              · exact zsk rfl 4 true 53 (.bool false) rfl rfl (by kernel_rfl) (by intro h; cases h) rfl
              · exact zsk rfl 4 true 53 (.bool false) rfl rfl (by kernel_rfl) (by intro h; cases h) rfl
              · exact zsk rfl 4 true 53 (.bool false) rfl rfl (by kernel_rfl) (by intro h; cases h) rfl
              · exact zsk rfl 13 false 62 undef rfl rfl (by kernel_rfl) (by intro h; cases h) rfl
              · exact zsk rfl 13 false 62 undef rfl rfl (by kernel_rfl) (by intro h; cases h) rfl
              · exact zsk rfl 13 false 62 undef rfl rfl (by kernel_rfl) (by intro h; cases h) rfl
              · exact zsk rfl 13 false 62 undef rfl rfl (by kernel_rfl) (by intro h; cases h) rfl
              · exact zsk rfl 17 true 66 undef rfl rfl (by kernel_rfl) (by intro h; cases h) rfl
              · exact zsk rfl 17 true 66 undef rfl rfl (by kernel_rfl) (by intro h; cases h) rfl
              · exact zsk rfl 17 true 66 undef rfl rfl (by kernel_rfl) (by intro h; cases h) rfl
              · exact zsk rfl 13 false 62 undef rfl rfl (by kernel_rfl) (by intro h; cases h) rfl
              · exact zsk rfl 4 true 53 (.bool false) rfl rfl (by kernel_rfl) (by intro h; cases h) rfl
              · exact step_pick rfl trivial _ _ _ false rfl (by kernel_rfl) (by kernel_rfl)
              · exact zmv rfl trivial _ rfl (by kernel_rfl)
              · exact zmv rfl ⟨_, rfl, by kernel_rfl⟩ _ rfl (by kernel_rfl)
              · exact znc rfl ⟨_, rfl, by kernel_rfl⟩ _ _ _ rfl rfl rfl
              · exact zfa rfl ⟨_, rfl, by kernel_rfl⟩ _ _ _ _ rfl rfl (fun w hw => faD3 w _ _)
              · exact zld rfl ⟨_, rfl, by kernel_rfl⟩ _ _ _ rfl rfl (fun w hw => by rw [← h4_0]; exact load_bo hw.de.crb)
              · exact step_unOp rfl ⟨_, rfl, by kernel_rfl⟩ _ _ _ _ rfl rfl (fun w hw => rfl)
              · exact zmv rfl ⟨_, rfl, by kernel_rfl⟩ _ rfl (by kernel_rfl)
              · exact zfa rfl ⟨_, rfl, by kernel_rfl⟩ _ _ _ _ rfl rfl (fun w hw => faE0 w _ _)
              · exact zld rfl ⟨_, rfl, by kernel_rfl⟩ _ _ _ rfl rfl (fun w hw => load_in ((zca hw.bx 0).trans rfl))
              · exact zbo rfl ⟨_, rfl, by kernel_rfl⟩ _ _ _ _ _ _ _ rfl rfl rfl (fun w hw => bin_eql _ _ _)
              · exact step_pick rfl ⟨_, rfl, by kernel_rfl⟩ _ _ _ true rfl (by kernel_rfl) (by kernel_rfl)
              · exact step_pick rfl trivial _ _ _ false rfl (by kernel_rfl) (by kernel_rfl)
            intro W hW
            first | refine hK _ _ ?_ | refine (‹∀ (a : Act) (w : World), Code.wp Try.prog _ _ a w → _›) _ _ ?_ | skip
            simp only [finL, List.getD_cons_zero, List.getD_cons_succ, Nat.zero_add, Nat.reduceAdd, List.setIfInBounds_toArray, List.set_cons_zero, List.set_cons_succ]
            obtain ⟨W4, rfl⟩ : ∃ V, V = W := ⟨_, rfl⟩
            have hJ4 := hW
            clear hW
            have HR : rwbad D ⟨2, nd, li, ro, ta, of, du, he, un⟩ = false := by unfold rwbad; try simp only [h4_0]; rfl
            have HO := hold_at (f := f) HP HR hm HX.out
            go_wp2
            cases h6_0 : u.up with
            | true =>
              cases h6_1 : (li != u.life) with
              | true =>
                refine wp_region_any hmx ?_
                refine zwp (fun i__ => ([(.pointer (some ⟨w.heap.size, 0, none⟩)), (.int .i64 2), (.bool true), (.bool true), (.pointer (some ⟨y, 2 + m * 6, none⟩)), (.pointer (some ⟨y, 2 + m * 6, none⟩)), (.pointer (some ⟨y, 2 + m * 6, none⟩)), (.bool true), (.bool false), (.bool false), (.pointer (some ⟨w.heap.size, 2, none⟩)), (.int .i64 li), (.pointer (some ⟨y, 2 + m * 6, none⟩)), (.pointer (some ⟨y, 2 + m * 6, none⟩)), (.pointer (some ⟨y, 2 + m * 6 + 1, none⟩)), (.int .i64 u.life), (.bool true), (.bool true), (.bool true)] : List Value).getD i__ undef) (fun V => JH w y w.heap.size n f D ⟨2, nd, li, ro, ta, of, du, he, un⟩ V) (by kernel_rfl) (hJ4.carry (Below.refl _ _).drew) ?_ ?_
                · refine (sqc ?_ (sqc ?_ (sqc ?_ (sqc ?_ (sqc ?_ (sqc ?_ (sqc ?_ (sqc ?_ (sqc ?_ (sqc ?_ (sqc ?_ (sqc ?_ (sqc ?_ (sqc ?_ (sqc ?_ (sqc ?_ (sqc ?_ (sqc ?_ (sqc ?_ trivial)))))))))))))))))))
                  · exact zfa rfl trivial _ _ _ _ rfl rfl (fun w hw => faE0 w _ _)
                  · exact zld rfl trivial _ _ _ rfl rfl (fun w hw => load_in ((zca hw.bx 0).trans rfl))
                  · exact zbo rfl trivial _ _ _ _ _ _ _ rfl rfl rfl (fun w hw => bin_neq _ _ _)
                  · exact zmv rfl trivial _ rfl (by kernel_rfl)
                  · exact zmv rfl ⟨_, rfl, by kernel_rfl⟩ _ rfl (by kernel_rfl)
                  · exact znc rfl ⟨_, rfl, by kernel_rfl⟩ _ _ _ rfl rfl rfl
                  · exact zfa rfl ⟨_, rfl, by kernel_rfl⟩ _ _ _ _ rfl rfl (fun w hw => faM0 w _ _)
                  · exact zld rfl ⟨_, rfl, by kernel_rfl⟩ _ _ _ rfl rfl (fun w hw => by rw [← h6_0]; exact load_bo (hw.de.cn hm (j := 0) (by decide) rfl))
                  · exact step_unOp rfl ⟨_, rfl, by kernel_rfl⟩ _ _ _ _ rfl rfl (fun w hw => rfl)
                  · exact zmv rfl ⟨_, rfl, by kernel_rfl⟩ _ rfl (by kernel_rfl)
                  · exact zfa rfl ⟨_, rfl, by kernel_rfl⟩ _ _ _ _ rfl rfl (fun w hw => faE2 w _ _)
                  · exact zld rfl ⟨_, rfl, by kernel_rfl⟩ _ _ _ rfl rfl (fun w hw => load_in ((zca hw.bx 2).trans rfl))
                  · exact zmv rfl ⟨_, rfl, by kernel_rfl⟩ _ rfl (by kernel_rfl)
                  · exact znc rfl ⟨_, rfl, by kernel_rfl⟩ _ _ _ rfl rfl rfl
                  · exact zfa rfl ⟨_, rfl, by kernel_rfl⟩ _ _ _ _ rfl rfl (fun w hw => faM1 w _ _)
                  · exact zld rfl ⟨_, rfl, by kernel_rfl⟩ _ _ _ rfl rfl (fun w hw => load_in (hw.de.cn hm (j := 1) (by decide) rfl))
                  · exact zbo rfl ⟨_, rfl, by kernel_rfl⟩ _ _ _ _ _ _ _ rfl rfl rfl (fun w hw => by rw [← h6_1]; exact bin_neq _ _ _)
                  · exact step_pick rfl ⟨_, rfl, by kernel_rfl⟩ _ _ _ false rfl (by kernel_rfl) (by kernel_rfl)
                  · exact step_pick rfl trivial _ _ _ true rfl (by kernel_rfl) (by kernel_rfl)
                intro W hW
                first | refine hK _ _ ?_ | refine (‹∀ (a : Act) (w : World), Code.wp Try.prog _ _ a w → _›) _ _ ?_ | skip
                simp only [finL, List.getD_cons_zero, List.getD_cons_succ, Nat.zero_add, Nat.reduceAdd, List.setIfInBounds_toArray, List.set_cons_zero, List.set_cons_succ]
                go_wp2
                go_ret
                exact ho_no (by rw [HO]; unfold upbad; try simp only [h6_0]; try simp only [h6_1]; rfl) hW.tn
              | false =>
                refine wp_region_any hmx ?_
                refine zwp (fun i__ => ([(.pointer (some ⟨w.heap.size, 0, none⟩)), (.int .i64 2), (.bool true), (.bool true), (.pointer (some ⟨y, 2 + m * 6, none⟩)), (.pointer (some ⟨y, 2 + m * 6, none⟩)), (.pointer (some ⟨y, 2 + m * 6, none⟩)), (.bool true), (.bool false), (.bool false), (.pointer (some ⟨w.heap.size, 2, none⟩)), (.int .i64 li), (.pointer (some ⟨y, 2 + m * 6, none⟩)), (.pointer (some ⟨y, 2 + m * 6, none⟩)), (.pointer (some ⟨y, 2 + m * 6 + 1, none⟩)), (.int .i64 u.life), (.bool false), (.bool false), (.bool false)] : List Value).getD i__ undef) (fun V => JH w y w.heap.size n f D ⟨2, nd, li, ro, ta, of, du, he, un⟩ V) (by kernel_rfl) (hJ4.carry (Below.refl _ _).drew) ?_ ?_
                · refine (sqc ?_ (sqc ?_ (sqc ?_ (sqc ?_ (sqc ?_ (sqc ?_ (sqc ?_ (sqc ?_ (sqc ?_ (sqc ?_ (sqc ?_ (sqc ?_ (sqc ?_ (sqc ?_ (sqc ?_ (sqc ?_ (sqc ?_ (sqc ?_ (sqc ?_ trivial)))))))))))))))))))
                  · exact zfa rfl trivial _ _ _ _ rfl rfl (fun w hw => faE0 w _ _)
                  · exact zld rfl trivial _ _ _ rfl rfl (fun w hw => load_in ((zca hw.bx 0).trans rfl))
                  · exact zbo rfl trivial _ _ _ _ _ _ _ rfl rfl rfl (fun w hw => bin_neq _ _ _)
                  · exact zmv rfl trivial _ rfl (by kernel_rfl)
                  · exact zmv rfl ⟨_, rfl, by kernel_rfl⟩ _ rfl (by kernel_rfl)
                  · exact znc rfl ⟨_, rfl, by kernel_rfl⟩ _ _ _ rfl rfl rfl
                  · exact zfa rfl ⟨_, rfl, by kernel_rfl⟩ _ _ _ _ rfl rfl (fun w hw => faM0 w _ _)
                  · exact zld rfl ⟨_, rfl, by kernel_rfl⟩ _ _ _ rfl rfl (fun w hw => by rw [← h6_0]; exact load_bo (hw.de.cn hm (j := 0) (by decide) rfl))
                  · exact step_unOp rfl ⟨_, rfl, by kernel_rfl⟩ _ _ _ _ rfl rfl (fun w hw => rfl)
                  · exact zmv rfl ⟨_, rfl, by kernel_rfl⟩ _ rfl (by kernel_rfl)
                  · exact zfa rfl ⟨_, rfl, by kernel_rfl⟩ _ _ _ _ rfl rfl (fun w hw => faE2 w _ _)
                  · exact zld rfl ⟨_, rfl, by kernel_rfl⟩ _ _ _ rfl rfl (fun w hw => load_in ((zca hw.bx 2).trans rfl))
                  · exact zmv rfl ⟨_, rfl, by kernel_rfl⟩ _ rfl (by kernel_rfl)
                  · exact znc rfl ⟨_, rfl, by kernel_rfl⟩ _ _ _ rfl rfl rfl
                  · exact zfa rfl ⟨_, rfl, by kernel_rfl⟩ _ _ _ _ rfl rfl (fun w hw => faM1 w _ _)
                  · exact zld rfl ⟨_, rfl, by kernel_rfl⟩ _ _ _ rfl rfl (fun w hw => load_in (hw.de.cn hm (j := 1) (by decide) rfl))
                  · exact zbo rfl ⟨_, rfl, by kernel_rfl⟩ _ _ _ _ _ _ _ rfl rfl rfl (fun w hw => by rw [← h6_1]; exact bin_neq _ _ _)
                  · exact step_pick rfl ⟨_, rfl, by kernel_rfl⟩ _ _ _ false rfl (by kernel_rfl) (by kernel_rfl)
                  · exact step_pick rfl trivial _ _ _ true rfl (by kernel_rfl) (by kernel_rfl)
                intro W hW
                first | refine hK _ _ ?_ | refine (‹∀ (a : Act) (w : World), Code.wp Try.prog _ _ a w → _›) _ _ ?_ | skip
                simp only [finL, List.getD_cons_zero, List.getD_cons_succ, Nat.zero_add, Nat.reduceAdd, List.setIfInBounds_toArray, List.set_cons_zero, List.set_cons_succ]
                obtain ⟨W6, rfl⟩ : ∃ V, V = W := ⟨_, rfl⟩
                have hJ6 := hW
                clear hW
                have ck : W6.cell? ⟨w.heap.size, 0, none⟩ = some (.int .i64 2) := (zca hJ6.bx 0).trans rfl
                have HO2 : hold n f D ⟨2, nd, li, ro, ta, of, du, he, un⟩ = dlw n f D ⟨2, nd, li, ro, ta, of, du, he, un⟩ m u := by rw [HO]; unfold upbad; try simp only [h6_0]; try simp only [h6_1]; rfl
                go_wp2
                cases h14_0 : (ro != u.op) with
                | true =>
                  refine wp_region_any hmx ?_
                  refine zwp (fun i__ => ([(.pointer (some ⟨y, 0, none⟩)), (.pointer (some ⟨y, 0, none⟩)), (.pointer (some ⟨y, 602, none⟩)), (.bool false), (.bool false), undef, undef, undef, undef, undef, undef, undef, undef, undef, undef, undef, undef, undef, (.bool false), (.bool false), (.pointer (some ⟨y, 0, none⟩)), (.pointer (some ⟨y, 0, none⟩)), (.pointer (some ⟨y, 602, none⟩)), (.bool false), (.bool true), (.bool true), (.pointer (some ⟨w.heap.size, 3, none⟩)), (.int .i64 ro), (.pointer (some ⟨y, 2 + m * 6, none⟩)), (.pointer (some ⟨y, 2 + m * 6, none⟩)), (.pointer (some ⟨y, 2 + m * 6 + 3, none⟩)), (.int .i64 u.op), (.bool true), (.bool true), (.bool true)] : List Value).getD i__ undef) (fun V => JH w y w.heap.size n f D ⟨2, nd, li, ro, ta, of, du, he, un⟩ V) (by kernel_rfl) (hJ6.carry (Below.refl _ _).drew) ?_ ?_
                  · refine (sqc ?_ (sqc ?_ (sqc ?_ (sqc ?_ (sqc ?_ (sqc ?_ (sqc ?_ (sqc ?_ (sqc ?_ (sqc ?_ (sqc ?_ (sqc ?_ (sqc ?_ (sqc ?_ (sqc ?_ (sqc ?_ (sqc ?_ (sqc ?_ (sqc ?_ (sqc ?_ (sqc ?_ (sqc ?_ (sqc ?_ (sqc ?_ (sqc ?_ (sqc ?_ (sqc ?_ (sqc ?_ (sqc ?_ (sqc ?_ (sqc ?_ (sqc ?_ (sqc ?_ (sqc ?_ (sqc ?_ trivial)))))))))))))))))))))))))))))))))))
                    · exact zmv rfl trivial _ rfl (by kernel_rfl)
                    · exact znc rfl trivial _ _ _ rfl rfl rfl
                    · exact zfa rfl trivial _ _ _ _ rfl rfl (fun w hw => faD3 w _ _)
                    · exact zld rfl trivial _ _ _ rfl rfl (fun w hw => by rw [← h4_0]; exact load_bo hw.de.crb)
                    · exact zmv rfl trivial _ rfl (by kernel_rfl)
                    · exact zsk rfl 4 true 183 (.bool false) rfl rfl (by kernel_rfl) (by intro h; cases h) rfl
                    · exact zsk rfl 4 true 183 (.bool false) rfl rfl (by kernel_rfl) (by intro h; cases h) rfl
                    · exact zsk rfl 4 true 183 (.bool false) rfl rfl (by kernel_rfl) (by intro h; cases h) rfl
                    · exact zsk rfl 4 true 183 (.bool false) rfl rfl (by kernel_rfl) (by intro h; cases h) rfl
                    · exact zsk rfl 4 true 183 (.bool false) rfl rfl (by kernel_rfl) (by intro h; cases h) rfl
                    · exact zsk rfl 4 true 183 (.bool false) rfl rfl (by kernel_rfl) (by intro h; cases h) rfl
                    · exact zsk rfl 4 true 183 (.bool false) rfl rfl (by kernel_rfl) (by intro h; cases h) rfl
                    · exact zsk rfl 4 true 183 (.bool false) rfl rfl (by kernel_rfl) (by intro h; cases h) rfl
                    · exact zsk rfl 4 true 183 (.bool false) rfl rfl (by kernel_rfl) (by intro h; cases h) rfl
                    · exact zsk rfl 13 false 192 undef rfl rfl (by kernel_rfl) (by intro h; cases h) rfl
                    · exact zsk rfl 13 false 192 undef rfl rfl (by kernel_rfl) (by intro h; cases h) rfl
                    · exact zsk rfl 13 false 192 undef rfl rfl (by kernel_rfl) (by intro h; cases h) rfl
                    · exact zsk rfl 4 true 183 (.bool false) rfl rfl (by kernel_rfl) (by intro h; cases h) rfl
                    · exact step_pick rfl trivial _ _ _ false rfl (by kernel_rfl) (by kernel_rfl)
                    · exact zmv rfl trivial _ rfl (by kernel_rfl)
                    · exact zmv rfl ⟨_, rfl, by kernel_rfl⟩ _ rfl (by kernel_rfl)
                    · exact znc rfl ⟨_, rfl, by kernel_rfl⟩ _ _ _ rfl rfl rfl
                    · exact zfa rfl ⟨_, rfl, by kernel_rfl⟩ _ _ _ _ rfl rfl (fun w hw => faD3 w _ _)
                    · exact zld rfl ⟨_, rfl, by kernel_rfl⟩ _ _ _ rfl rfl (fun w hw => by rw [← h4_0]; exact load_bo hw.de.crb)
                    · exact step_unOp rfl ⟨_, rfl, by kernel_rfl⟩ _ _ _ _ rfl rfl (fun w hw => rfl)
                    · exact zmv rfl ⟨_, rfl, by kernel_rfl⟩ _ rfl (by kernel_rfl)
                    · exact zfa rfl ⟨_, rfl, by kernel_rfl⟩ _ _ _ _ rfl rfl (fun w hw => faE3 w _ _)
                    · exact zld rfl ⟨_, rfl, by kernel_rfl⟩ _ _ _ rfl rfl (fun w hw => load_in ((zca hw.bx 3).trans rfl))
                    · exact zmv rfl ⟨_, rfl, by kernel_rfl⟩ _ rfl (by kernel_rfl)
                    · exact znc rfl ⟨_, rfl, by kernel_rfl⟩ _ _ _ rfl rfl rfl
                    · exact zfa rfl ⟨_, rfl, by kernel_rfl⟩ _ _ _ _ rfl rfl (fun w hw => faM3 w _ _)
                    · exact zld rfl ⟨_, rfl, by kernel_rfl⟩ _ _ _ rfl rfl (fun w hw => load_in (hw.de.cn hm (j := 3) (by decide) rfl))
                    · exact zbo rfl ⟨_, rfl, by kernel_rfl⟩ _ _ _ _ _ _ _ rfl rfl rfl (fun w hw => by rw [← h14_0]; exact bin_neq _ _ _)
                    · exact step_pick rfl ⟨_, rfl, by kernel_rfl⟩ _ _ _ true rfl (by kernel_rfl) (by kernel_rfl)
                    · exact step_pick rfl trivial _ _ _ false rfl (by kernel_rfl) (by kernel_rfl)
                  intro W hW
                  first | refine hK _ _ ?_ | refine (‹∀ (a : Act) (w : World), Code.wp Try.prog _ _ a w → _›) _ _ ?_ | skip
                  simp only [finL, List.getD_cons_zero, List.getD_cons_succ, Nat.zero_add, Nat.reduceAdd, List.setIfInBounds_toArray, List.set_cons_zero, List.set_cons_succ]
                  go_wp2
                  go_ret
                  exact ho_no (by rw [HO2]; unfold dlw dl2; try simp only [h4_0]; try simp only [h14_0]; rfl) hW.tn
                | false =>
                  refine wp_region_any hmx ?_
                  refine zwp (fun i__ => ([(.pointer (some ⟨y, 0, none⟩)), (.pointer (some ⟨y, 0, none⟩)), (.pointer (some ⟨y, 602, none⟩)), (.bool false), (.bool false), undef, undef, undef, undef, undef, undef, undef, undef, undef, undef, undef, undef, undef, (.bool false), (.bool false), (.pointer (some ⟨y, 0, none⟩)), (.pointer (some ⟨y, 0, none⟩)), (.pointer (some ⟨y, 602, none⟩)), (.bool false), (.bool true), (.bool true), (.pointer (some ⟨w.heap.size, 3, none⟩)), (.int .i64 ro), (.pointer (some ⟨y, 2 + m * 6, none⟩)), (.pointer (some ⟨y, 2 + m * 6, none⟩)), (.pointer (some ⟨y, 2 + m * 6 + 3, none⟩)), (.int .i64 u.op), (.bool false), (.bool false), (.bool false)] : List Value).getD i__ undef) (fun V => JH w y w.heap.size n f D ⟨2, nd, li, ro, ta, of, du, he, un⟩ V) (by kernel_rfl) (hJ6.carry (Below.refl _ _).drew) ?_ ?_
                  · refine (sqc ?_ (sqc ?_ (sqc ?_ (sqc ?_ (sqc ?_ (sqc ?_ (sqc ?_ (sqc ?_ (sqc ?_ (sqc ?_ (sqc ?_ (sqc ?_ (sqc ?_ (sqc ?_ (sqc ?_ (sqc ?_ (sqc ?_ (sqc ?_ (sqc ?_ (sqc ?_ (sqc ?_ (sqc ?_ (sqc ?_ (sqc ?_ (sqc ?_ (sqc ?_ (sqc ?_ (sqc ?_ (sqc ?_ (sqc ?_ (sqc ?_ (sqc ?_ (sqc ?_ (sqc ?_ (sqc ?_ trivial)))))))))))))))))))))))))))))))))))
                    · exact zmv rfl trivial _ rfl (by kernel_rfl)
                    · exact znc rfl trivial _ _ _ rfl rfl rfl
                    · exact zfa rfl trivial _ _ _ _ rfl rfl (fun w hw => faD3 w _ _)
                    · exact zld rfl trivial _ _ _ rfl rfl (fun w hw => by rw [← h4_0]; exact load_bo hw.de.crb)
                    · exact zmv rfl trivial _ rfl (by kernel_rfl)
                    · exact zsk rfl 4 true 183 (.bool false) rfl rfl (by kernel_rfl) (by intro h; cases h) rfl
                    · exact zsk rfl 4 true 183 (.bool false) rfl rfl (by kernel_rfl) (by intro h; cases h) rfl
                    · exact zsk rfl 4 true 183 (.bool false) rfl rfl (by kernel_rfl) (by intro h; cases h) rfl
                    · exact zsk rfl 4 true 183 (.bool false) rfl rfl (by kernel_rfl) (by intro h; cases h) rfl
                    · exact zsk rfl 4 true 183 (.bool false) rfl rfl (by kernel_rfl) (by intro h; cases h) rfl
                    · exact zsk rfl 4 true 183 (.bool false) rfl rfl (by kernel_rfl) (by intro h; cases h) rfl
                    · exact zsk rfl 4 true 183 (.bool false) rfl rfl (by kernel_rfl) (by intro h; cases h) rfl
                    · exact zsk rfl 4 true 183 (.bool false) rfl rfl (by kernel_rfl) (by intro h; cases h) rfl
                    · exact zsk rfl 4 true 183 (.bool false) rfl rfl (by kernel_rfl) (by intro h; cases h) rfl
                    · exact zsk rfl 13 false 192 undef rfl rfl (by kernel_rfl) (by intro h; cases h) rfl
                    · exact zsk rfl 13 false 192 undef rfl rfl (by kernel_rfl) (by intro h; cases h) rfl
                    · exact zsk rfl 13 false 192 undef rfl rfl (by kernel_rfl) (by intro h; cases h) rfl
                    · exact zsk rfl 4 true 183 (.bool false) rfl rfl (by kernel_rfl) (by intro h; cases h) rfl
                    · exact step_pick rfl trivial _ _ _ false rfl (by kernel_rfl) (by kernel_rfl)
                    · exact zmv rfl trivial _ rfl (by kernel_rfl)
                    · exact zmv rfl ⟨_, rfl, by kernel_rfl⟩ _ rfl (by kernel_rfl)
                    · exact znc rfl ⟨_, rfl, by kernel_rfl⟩ _ _ _ rfl rfl rfl
                    · exact zfa rfl ⟨_, rfl, by kernel_rfl⟩ _ _ _ _ rfl rfl (fun w hw => faD3 w _ _)
                    · exact zld rfl ⟨_, rfl, by kernel_rfl⟩ _ _ _ rfl rfl (fun w hw => by rw [← h4_0]; exact load_bo hw.de.crb)
                    · exact step_unOp rfl ⟨_, rfl, by kernel_rfl⟩ _ _ _ _ rfl rfl (fun w hw => rfl)
                    · exact zmv rfl ⟨_, rfl, by kernel_rfl⟩ _ rfl (by kernel_rfl)
                    · exact zfa rfl ⟨_, rfl, by kernel_rfl⟩ _ _ _ _ rfl rfl (fun w hw => faE3 w _ _)
                    · exact zld rfl ⟨_, rfl, by kernel_rfl⟩ _ _ _ rfl rfl (fun w hw => load_in ((zca hw.bx 3).trans rfl))
                    · exact zmv rfl ⟨_, rfl, by kernel_rfl⟩ _ rfl (by kernel_rfl)
                    · exact znc rfl ⟨_, rfl, by kernel_rfl⟩ _ _ _ rfl rfl rfl
                    · exact zfa rfl ⟨_, rfl, by kernel_rfl⟩ _ _ _ _ rfl rfl (fun w hw => faM3 w _ _)
                    · exact zld rfl ⟨_, rfl, by kernel_rfl⟩ _ _ _ rfl rfl (fun w hw => load_in (hw.de.cn hm (j := 3) (by decide) rfl))
                    · exact zbo rfl ⟨_, rfl, by kernel_rfl⟩ _ _ _ _ _ _ _ rfl rfl rfl (fun w hw => by rw [← h14_0]; exact bin_neq _ _ _)
                    · exact step_pick rfl ⟨_, rfl, by kernel_rfl⟩ _ _ _ true rfl (by kernel_rfl) (by kernel_rfl)
                    · exact step_pick rfl trivial _ _ _ false rfl (by kernel_rfl) (by kernel_rfl)
                  intro W hW
                  first | refine hK _ _ ?_ | refine (‹∀ (a : Act) (w : World), Code.wp Try.prog _ _ a w → _›) _ _ ?_ | skip
                  simp only [finL, List.getD_cons_zero, List.getD_cons_succ, Nat.zero_add, Nat.reduceAdd, List.setIfInBounds_toArray, List.set_cons_zero, List.set_cons_succ]
                  obtain ⟨W7, rfl⟩ : ∃ V, V = W := ⟨_, rfl⟩
                  have hJ7 := hW
                  clear hW
                  cases hak : decide (ro > u.ask) with
                  | true =>
                    have HF : Hid (hold n f D ⟨2, nd, li, ro, ta, of, du, he, un⟩ = some ⟨D.ds.set m { u with op := ro, ask := ro }, false, D.c, D.la⟩) := by rw [HO2]; unfold dlw dl2; try simp only [hak]; try simp only [h4_0]; try simp only [h14_0]; rfl
                    have cn3 : W7.cell? ⟨y, 2 + m * 6 + 3, none⟩ = some (.int .i64 u.op) := hJ7.de.cn hm (j := 3) (by decide) rfl
                    have zn3 := hJ7.de.frz (2 + m * 6 + 3)
                    have cq3 : W7.cell? ⟨w.heap.size, 3, none⟩ = some (.int .i64 ro) := (zca hJ7.bx 3).trans rfl
                    have hA := hJ7.put _ _ (hJ7.de.nput (u' := { u with op := ro }) (v := .int .i64 ro) hm (j := 3) (by decide) rfl)
                    have hm2 : (D.ds.set m { u with op := ro })[m]? = some { u with op := ro } := by simp [h.ln, hml]
                    obtain ⟨D2, hD2⟩ : ∃ D2 : Ds, D2 = { D with ds := D.ds.set m { u with op := ro } } := ⟨_, rfl⟩
                    rw [← hD2] at hA
                    have hm3 : D2.ds[m]? = some { u with op := ro } := by rw [hD2]; exact hm2
                    have HA : Hid (JH w y w.heap.size n f D2 ⟨2, nd, li, ro, ta, of, du, he, un⟩ (W7.setCell ⟨y, 2 + m * 6 + 3, none⟩ (.int .i64 ro))) := hA
                    clear hA
                    go_wp2
                    refine wp_region_any hmx ?_
                    refine zwp (fun i__ => ([(.pointer (some ⟨w.heap.size, 3, none⟩)), (.int .i64 ro), (.pointer (some ⟨y, 2 + m * 6, none⟩)), (.pointer (some ⟨y, 2 + m * 6, none⟩)), (.pointer (some ⟨y, 2 + m * 6 + 4, none⟩)), (.int .i64 u.ask), (.bool true)] : List Value).getD i__ undef) (fun V => JH w y w.heap.size n f D2 ⟨2, nd, li, ro, ta, of, du, he, un⟩ V) (by kernel_rfl) (HA.out.carry (Below.refl _ _).drew) ?_ ?_
                    · refine (sqc ?_ (sqc ?_ (sqc ?_ (sqc ?_ (sqc ?_ (sqc ?_ (sqc ?_ trivial)))))))
                      · exact zfa rfl trivial _ _ _ _ rfl rfl (fun w hw => faE3 w _ _)
                      · exact zld rfl trivial _ _ _ rfl rfl (fun w hw => load_in ((zca hw.bx 3).trans rfl))
                      · exact zmv rfl trivial _ rfl (by kernel_rfl)
                      · exact znc rfl trivial _ _ _ rfl rfl rfl
                      · exact zfa rfl trivial _ _ _ _ rfl rfl (fun w hw => faM4 w _ _)
                      · exact zld rfl trivial _ _ _ rfl rfl (fun w hw => load_in (hw.de.cn hm3 (j := 4) (by decide) rfl))
                      · exact zbo rfl trivial _ _ _ _ _ _ _ rfl rfl rfl (fun w hw => by rw [← hak]; exact bin_gtr _ _ _)
                    intro W hW
                    first | refine hK _ _ ?_ | refine (‹∀ (a : Act) (w : World), Code.wp Try.prog _ _ a w → _›) _ _ ?_ | skip
                    simp only [finL, List.getD_cons_zero, List.getD_cons_succ, Nat.zero_add, Nat.reduceAdd, List.setIfInBounds_toArray, List.set_cons_zero, List.set_cons_succ]
                    obtain ⟨W8, rfl⟩ : ∃ V, V = W := ⟨_, rfl⟩
                    have hJ8 := hW
                    clear hW
                    have cr : W8.cell? ⟨y, 602, none⟩ = some (.bool D2.rb) := hJ8.de.crb
                    have zr := hJ8.de.frz 602
                    have ca : W8.cell? ⟨y, 2 + m * 6 + 4, none⟩ = some (.int .i64 u.ask) := hJ8.de.cn hm3 (j := 4) (by decide) rfl
                    have za := hJ8.de.frz (2 + m * 6 + 4)
                    have cq : W8.cell? ⟨w.heap.size, 3, none⟩ = some (.int .i64 ro) := (zca hJ8.bx 3).trans rfl
                    have hB := hJ8.put _ _ (hJ8.de.nput (u' := { u with op := ro, ask := ro }) (v := .int .i64 ro) hm3 (j := 4) (by decide) rfl)
                    have cr2 : (W8.setCell ⟨y, 2 + m * 6 + 4, none⟩ (.int .i64 ro)).cell? ⟨y, 602, none⟩ = some (.bool D2.rb) := hB.de.crb
                    have zr2 := hB.de.frz 602
                    have hfin := hB.de.rput false
                    have htn := hB.tn.trans (Tn.put _ y y 602 (.bool false))
                    clear hB
                    clear hJ0 hJ1 hJ3 hJ4 HO HO2 HP HR h hJ6 hJ7 hJ8 HA
                    go_wp2
                    go_ret
                    exact ho_yes HF.out (by rw [hD2] at hfin; simpa using hfin) htn
                  | false =>
                    have HF : Hid (hold n f D ⟨2, nd, li, ro, ta, of, du, he, un⟩ = some ⟨D.ds.set m { u with op := ro }, false, D.c, D.la⟩) := by rw [HO2]; unfold dlw dl2; try simp only [hak]; try simp only [h4_0]; try simp only [h14_0]; rfl
                    have cn3 : W7.cell? ⟨y, 2 + m * 6 + 3, none⟩ = some (.int .i64 u.op) := hJ7.de.cn hm (j := 3) (by decide) rfl
                    have zn3 := hJ7.de.frz (2 + m * 6 + 3)
                    have cq3 : W7.cell? ⟨w.heap.size, 3, none⟩ = some (.int .i64 ro) := (zca hJ7.bx 3).trans rfl
                    have hA := hJ7.put _ _ (hJ7.de.nput (u' := { u with op := ro }) (v := .int .i64 ro) hm (j := 3) (by decide) rfl)
                    have hm2 : (D.ds.set m { u with op := ro })[m]? = some { u with op := ro } := by simp [h.ln, hml]
                    obtain ⟨D2, hD2⟩ : ∃ D2 : Ds, D2 = { D with ds := D.ds.set m { u with op := ro } } := ⟨_, rfl⟩
                    rw [← hD2] at hA
                    have hm3 : D2.ds[m]? = some { u with op := ro } := by rw [hD2]; exact hm2
                    have HA : Hid (JH w y w.heap.size n f D2 ⟨2, nd, li, ro, ta, of, du, he, un⟩ (W7.setCell ⟨y, 2 + m * 6 + 3, none⟩ (.int .i64 ro))) := hA
                    clear hA
                    go_wp2
                    refine wp_region_any hmx ?_
                    refine zwp (fun i__ => ([(.pointer (some ⟨w.heap.size, 3, none⟩)), (.int .i64 ro), (.pointer (some ⟨y, 2 + m * 6, none⟩)), (.pointer (some ⟨y, 2 + m * 6, none⟩)), (.pointer (some ⟨y, 2 + m * 6 + 4, none⟩)), (.int .i64 u.ask), (.bool false)] : List Value).getD i__ undef) (fun V => JH w y w.heap.size n f D2 ⟨2, nd, li, ro, ta, of, du, he, un⟩ V) (by kernel_rfl) (HA.out.carry (Below.refl _ _).drew) ?_ ?_
                    · refine (sqc ?_ (sqc ?_ (sqc ?_ (sqc ?_ (sqc ?_ (sqc ?_ (sqc ?_ trivial)))))))
                      · exact zfa rfl trivial _ _ _ _ rfl rfl (fun w hw => faE3 w _ _)
                      · exact zld rfl trivial _ _ _ rfl rfl (fun w hw => load_in ((zca hw.bx 3).trans rfl))
                      · exact zmv rfl trivial _ rfl (by kernel_rfl)
                      · exact znc rfl trivial _ _ _ rfl rfl rfl
                      · exact zfa rfl trivial _ _ _ _ rfl rfl (fun w hw => faM4 w _ _)
                      · exact zld rfl trivial _ _ _ rfl rfl (fun w hw => load_in (hw.de.cn hm3 (j := 4) (by decide) rfl))
                      · exact zbo rfl trivial _ _ _ _ _ _ _ rfl rfl rfl (fun w hw => by rw [← hak]; exact bin_gtr _ _ _)
                    intro W hW
                    first | refine hK _ _ ?_ | refine (‹∀ (a : Act) (w : World), Code.wp Try.prog _ _ a w → _›) _ _ ?_ | skip
                    simp only [finL, List.getD_cons_zero, List.getD_cons_succ, Nat.zero_add, Nat.reduceAdd, List.setIfInBounds_toArray, List.set_cons_zero, List.set_cons_succ]
                    obtain ⟨W8, rfl⟩ : ∃ V, V = W := ⟨_, rfl⟩
                    have hJ8 := hW
                    clear hW
                    have cr : W8.cell? ⟨y, 602, none⟩ = some (.bool D2.rb) := hJ8.de.crb
                    have zr := hJ8.de.frz 602
                    have hfin := hJ8.de.rput false
                    have htn := hJ8.tn.trans (Tn.put W8 y y 602 (.bool false))
                    clear hJ0 hJ1 hJ3 hJ4 HO HO2 HP HR h hJ6 hJ7 hJ8 HA
                    go_wp2
                    go_ret
                    exact ho_yes HF.out (by rw [hD2] at hfin; simpa using hfin) htn
            | false =>
              refine wp_region_any hmx ?_
              refine zwp (fun i__ => ([(.pointer (some ⟨w.heap.size, 0, none⟩)), (.int .i64 2), (.bool true), (.bool true), (.pointer (some ⟨y, 2 + m * 6, none⟩)), (.pointer (some ⟨y, 2 + m * 6, none⟩)), (.pointer (some ⟨y, 2 + m * 6, none⟩)), (.bool false), (.bool true), (.bool true), undef, undef, undef, undef, undef, undef, undef, (.bool true), (.bool true)] : List Value).getD i__ undef) (fun V => JH w y w.heap.size n f D ⟨2, nd, li, ro, ta, of, du, he, un⟩ V) (by kernel_rfl) (hJ4.carry (Below.refl _ _).drew) ?_ ?_
              · refine (sqc ?_ (sqc ?_ (sqc ?_ (sqc ?_ (sqc ?_ (sqc ?_ (sqc ?_ (sqc ?_ (sqc ?_ (sqc ?_ (sqc ?_ (sqc ?_ (sqc ?_ (sqc ?_ (sqc ?_ (sqc ?_ (sqc ?_ (sqc ?_ (sqc ?_ trivial)))))))))))))))))))
                · exact zfa rfl trivial _ _ _ _ rfl rfl (fun w hw => faE0 w _ _)
                · exact zld rfl trivial _ _ _ rfl rfl (fun w hw => load_in ((zca hw.bx 0).trans rfl))
                · exact zbo rfl trivial _ _ _ _ _ _ _ rfl rfl rfl (fun w hw => bin_neq _ _ _)
                · exact zmv rfl trivial _ rfl (by kernel_rfl)
                · exact zmv rfl ⟨_, rfl, by kernel_rfl⟩ _ rfl (by kernel_rfl)
                · exact znc rfl ⟨_, rfl, by kernel_rfl⟩ _ _ _ rfl rfl rfl
                · exact zfa rfl ⟨_, rfl, by kernel_rfl⟩ _ _ _ _ rfl rfl (fun w hw => faM0 w _ _)
                · exact zld rfl ⟨_, rfl, by kernel_rfl⟩ _ _ _ rfl rfl (fun w hw => by rw [← h6_0]; exact load_bo (hw.de.cn hm (j := 0) (by decide) rfl))
                · exact step_unOp rfl ⟨_, rfl, by kernel_rfl⟩ _ _ _ _ rfl rfl (fun w hw => rfl)
                · exact zmv rfl ⟨_, rfl, by kernel_rfl⟩ _ rfl (by kernel_rfl)
                · exact zsk rfl 9 false 94 (.bool true) rfl rfl (by kernel_rfl) (by intro h; cases h) rfl
                · exact zsk rfl 9 false 94 (.bool true) rfl rfl (by kernel_rfl) (by intro h; cases h) rfl
                · exact zsk rfl 9 false 94 (.bool true) rfl rfl (by kernel_rfl) (by intro h; cases h) rfl
                · exact zsk rfl 9 false 94 (.bool true) rfl rfl (by kernel_rfl) (by intro h; cases h) rfl
                · exact zsk rfl 9 false 94 (.bool true) rfl rfl (by kernel_rfl) (by intro h; cases h) rfl
                · exact zsk rfl 9 false 94 (.bool true) rfl rfl (by kernel_rfl) (by intro h; cases h) rfl
                · exact zsk rfl 9 false 94 (.bool true) rfl rfl (by kernel_rfl) (by intro h; cases h) rfl
                · exact step_pick rfl ⟨_, rfl, by kernel_rfl⟩ _ _ _ true rfl (by kernel_rfl) (by kernel_rfl)
                · exact step_pick rfl trivial _ _ _ true rfl (by kernel_rfl) (by kernel_rfl)
              intro W hW
              first | refine hK _ _ ?_ | refine (‹∀ (a : Act) (w : World), Code.wp Try.prog _ _ a w → _›) _ _ ?_ | skip
              simp only [finL, List.getD_cons_zero, List.getD_cons_succ, Nat.zero_add, Nat.reduceAdd, List.setIfInBounds_toArray, List.set_cons_zero, List.set_cons_succ]
              go_wp2
              go_ret
              exact ho_no (by rw [HO]; unfold upbad; try simp only [h6_0]; rfl) hW.tn
        | false =>
          refine wp_region_any hmx ?_
          refine zwp (fun i__ => ([(.pointer (some ⟨w.heap.size, 0, none⟩)), (.int .i64 2), (.bool false), (.bool false), (.pointer (some ⟨w.heap.size, 0, none⟩)), (.int .i64 2), (.bool false), (.bool false), (.bool false), (.pointer (some ⟨w.heap.size, 1, none⟩)), (.int .i64 nd), (.bool false), (.bool false), (.bool false), (.pointer (some ⟨w.heap.size, 1, none⟩)), (.int .i64 nd), (.pointer (some ⟨y, 0, none⟩)), (.pointer (some ⟨y, 0, none⟩)), (.pointer (some ⟨y, 0, none⟩)), (.int .i64 n), (.bool false), (.bool false), (.bool false), (.pointer (some ⟨w.heap.size, 2, none⟩)), (.int .i64 li), (.bool false), (.bool false), (.bool false), (.pointer (some ⟨w.heap.size, 2, none⟩)), (.int .i64 li), (.bool false), (.bool false), (.bool false), (evV ⟨2, nd, li, ro, ta, of, du, he, un⟩), (.bool false), (.bool true), (.bool true)] : List Value).getD i__ undef) (fun V => JH w y w.heap.size n f D ⟨2, nd, li, ro, ta, of, du, he, un⟩ V) (by kernel_rfl) (hJ0.carry (Below.refl _ _).drew) ?_ ?_
          · refine (sqc ?_ (sqc ?_ (sqc ?_ (sqc ?_ (sqc ?_ (sqc ?_ (sqc ?_ (sqc ?_ (sqc ?_ (sqc ?_ (sqc ?_ (sqc ?_ (sqc ?_ (sqc ?_ (sqc ?_ (sqc ?_ (sqc ?_ (sqc ?_ (sqc ?_ (sqc ?_ (sqc ?_ (sqc ?_ (sqc ?_ (sqc ?_ (sqc ?_ (sqc ?_ (sqc ?_ (sqc ?_ (sqc ?_ (sqc ?_ (sqc ?_ (sqc ?_ (sqc ?_ (sqc ?_ (sqc ?_ (sqc ?_ (sqc ?_ trivial)))))))))))))))))))))))))))))))))))))
            · exact zfa rfl trivial _ _ _ _ rfl rfl (fun w hw => faE0 w _ _)
            · exact zld rfl trivial _ _ _ rfl rfl (fun w hw => load_in ((zca hw.bx 0).trans rfl))
            · exact zbo rfl trivial _ _ _ _ _ _ _ rfl rfl rfl (fun w hw => bin_lss _ _ _)
            · exact zmv rfl trivial _ rfl (by kernel_rfl)
            · exact zfa rfl ⟨_, rfl, by kernel_rfl⟩ _ _ _ _ rfl rfl (fun w hw => faE0 w _ _)
            · exact zld rfl ⟨_, rfl, by kernel_rfl⟩ _ _ _ rfl rfl (fun w hw => load_in ((zca hw.bx 0).trans rfl))
            · exact zbo rfl ⟨_, rfl, by kernel_rfl⟩ _ _ _ _ _ _ _ rfl rfl rfl (fun w hw => bin_gtr _ _ _)
            · exact step_pick rfl trivial _ _ _ false rfl (by kernel_rfl) (by kernel_rfl)
            · exact zmv rfl trivial _ rfl (by kernel_rfl)
            · exact zfa rfl ⟨_, rfl, by kernel_rfl⟩ _ _ _ _ rfl rfl (fun w hw => faE1 w _ _)
            · exact zld rfl ⟨_, rfl, by kernel_rfl⟩ _ _ _ rfl rfl (fun w hw => load_in ((zca hw.bx 1).trans rfl))
            · exact zbo rfl ⟨_, rfl, by kernel_rfl⟩ _ _ _ _ _ _ _ rfl rfl rfl (fun w hw => by rw [← h1_0]; exact bin_lss _ _ _)
            · exact step_pick rfl trivial _ _ _ false rfl (by kernel_rfl) (by kernel_rfl)
            · exact zmv rfl trivial _ rfl (by kernel_rfl)
            · exact zfa rfl ⟨_, rfl, by kernel_rfl⟩ _ _ _ _ rfl rfl (fun w hw => faE1 w _ _)
            · exact zld rfl ⟨_, rfl, by kernel_rfl⟩ _ _ _ rfl rfl (fun w hw => load_in ((zca hw.bx 1).trans rfl))
            · exact zmv rfl ⟨_, rfl, by kernel_rfl⟩ _ rfl (by kernel_rfl)
            · exact znc rfl ⟨_, rfl, by kernel_rfl⟩ _ _ _ rfl rfl rfl
            · exact zfa rfl ⟨_, rfl, by kernel_rfl⟩ _ _ _ _ rfl rfl (fun w hw => faD0 w _ _)
            · exact zld rfl ⟨_, rfl, by kernel_rfl⟩ _ _ _ rfl rfl (fun w hw => load_in hw.de.c0)
            · exact zbo rfl ⟨_, rfl, by kernel_rfl⟩ _ _ _ _ _ _ _ rfl rfl rfl (fun w hw => by rw [← h1_1]; exact bin_geq _ _ _)
            · exact step_pick rfl trivial _ _ _ false rfl (by kernel_rfl) (by kernel_rfl)
            · exact zmv rfl trivial _ rfl (by kernel_rfl)
            · exact zfa rfl ⟨_, rfl, by kernel_rfl⟩ _ _ _ _ rfl rfl (fun w hw => faE2 w _ _)
            · exact zld rfl ⟨_, rfl, by kernel_rfl⟩ _ _ _ rfl rfl (fun w hw => load_in ((zca hw.bx 2).trans rfl))
            · exact zbo rfl ⟨_, rfl, by kernel_rfl⟩ _ _ _ _ _ _ _ rfl rfl rfl (fun w hw => by rw [← h1_2]; exact bin_lss _ _ _)
            · exact step_pick rfl trivial _ _ _ false rfl (by kernel_rfl) (by kernel_rfl)
            · exact zmv rfl trivial _ rfl (by kernel_rfl)
            · exact zfa rfl ⟨_, rfl, by kernel_rfl⟩ _ _ _ _ rfl rfl (fun w hw => faE2 w _ _)
            · exact zld rfl ⟨_, rfl, by kernel_rfl⟩ _ _ _ rfl rfl (fun w hw => load_in ((zca hw.bx 2).trans rfl))
            · exact zbo rfl ⟨_, rfl, by kernel_rfl⟩ _ _ _ _ _ _ _ rfl rfl rfl (fun w hw => by rw [← h1_3]; exact bin_gtr _ _ _)
            · exact step_pick rfl trivial _ _ _ false rfl (by kernel_rfl) (by kernel_rfl)
            · exact zmv rfl trivial _ rfl (by kernel_rfl)
            · exact zld rfl ⟨_, rfl, by kernel_rfl⟩ _ _ _ rfl rfl (fun w hw => load_bx hw.bx)
            · exact zsc rfl ⟨_, rfl, by kernel_rfl⟩ 17 _ _ [(evV ⟨2, nd, li, ro, ta, of, du, he, un⟩)] rfl (by kernel_rfl) (enters_of Try.func17 (by kernel_rfl) rfl) (fun w hw => (rbare_any ⟨2, nd, li, ro, ta, of, du, he, un⟩ hhe hun w).mono (by rintro e w' ⟨rfl, hb⟩; exact ⟨congrArg (fun z => Ending.returned (Value.bool z)) h1_4, hw.carry hb⟩))
            · exact step_unOp rfl ⟨_, rfl, by kernel_rfl⟩ _ _ _ _ rfl rfl (fun w hw => rfl)
            · exact step_pick rfl trivial _ _ _ false rfl (by kernel_rfl) (by kernel_rfl)
          intro W hW
          first | refine hK _ _ ?_ | refine (‹∀ (a : Act) (w : World), Code.wp Try.prog _ _ a w → _›) _ _ ?_ | skip
          simp only [finL, List.getD_cons_zero, List.getD_cons_succ, Nat.zero_add, Nat.reduceAdd, List.setIfInBounds_toArray, List.set_cons_zero, List.set_cons_succ]
          go_wp2
          go_ret
          exact ho_no (by unfold hold dpre; try simp only [h1_0]; try simp only [h1_1]; try simp only [h1_2]; try simp only [h1_3]; try simp only [h1_4]; rfl) hW.tn
end Go.Proofs.Ytifcnnonnocmmaa
