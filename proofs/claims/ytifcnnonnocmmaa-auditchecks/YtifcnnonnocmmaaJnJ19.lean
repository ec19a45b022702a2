import Derived.Test.YtifcnnonnocmmaaJnJ15
set_option maxHeartbeats 40000000
set_option maxRecDepth 100000
set_option linter.unusedVariables false
namespace Go.Proofs.Ytifcnnonnocmmaa
open Go.RowKit Go.Shelf Go.Lib
attribute [local go_sem] Oper.semAt_some
theorem hold_4 {w : World} {y : Nat} {n f : Int} {D : Ds} (h : De w y n f D) (hn : 1 ≤ n ∧ n ≤ 100) (_hf : 0 ≤ f ∧ f < n) (nd li ro ta of du : Int) (he un : Nat) (hhe : he < S128) (hun : un < S128) : Calls Try.prog 12 #[.pointer (some ⟨y, 0, none⟩), evV ⟨4, nd, li, ro, ta, of, du, he, un⟩] w (Ho y n f w (hold n f D ⟨4, nd, li, ro, ta, of, du, he, un⟩)) := by
 have hmx : Try.prog.follows .mixedOrders = true := by kernel_rfl
 have hJ0 := JH.new h ⟨4, nd, li, ro, ta, of, du, he, un⟩
 unfold evV ecA
 go_enter Try.func12, Try.ntmps12
 go_wp2
 cases h1_0 : decide (nd < 0) with
 | true =>
  refine wp_region_any hmx ?_
  refine zwp (fun i__ => ([(.pointer (some ⟨w.heap.size, 0, none⟩)), (.int .i64 4), (.bool false), (.bool false), (.pointer (some ⟨w.heap.size, 0, none⟩)), (.int .i64 4), (.bool false), (.bool false), (.bool false), (.pointer (some ⟨w.heap.size, 1, none⟩)), (.int .i64 nd), (.bool true), (.bool true), (.bool true), undef, undef, undef, undef, undef, undef, undef, (.bool true), (.bool true), undef, undef, undef, (.bool true), (.bool true), undef, undef, undef, (.bool true), (.bool true), undef, undef, undef, (.bool true)] : List Value).getD i__ undef) (fun V => JH w y w.heap.size n f D ⟨4, nd, li, ro, ta, of, du, he, un⟩ V) (by kernel_rfl) (hJ0.carry (Below.refl _ _).drew) ?_ ?_
  · refine (sqc ?_ (sqc ?_ (sqc ?_ (sqc ?_ (sqc ?_ (sqc ?_ (sqc ?_ (sqc ?_ (sqc ?_ (sqc ?_ (sqc ?_ (sqc ?_ (sqc ?_ (sqc ?_ (sqc ?_ (sqc ?_ (sqc ?_ (sqc ?_ (sqc ?_ (sqc ?_ (sqc ?_ (sqc ?_ (sqc ?_ (sqc ?_ (sqc ?_ (sqc ?_ (sqc ?_ (sqc ?_ (sqc ?_ (sqc ?_ (sqc ?_ (sqc ?_ (sqc ?_ (sqc ?_ (sqc ?_ (sqc ?_ (sqc ?_ trivial)))))))))))))))))))))))))))))))))))))
    · exact zfa rfl trivial _ _ _ _ rfl rfl (fun w hw => faE0 w _ _)
    · exact zld rfl trivial _ _ _ rfl rfl (fun w hw => load_in ((zca hw.bx 0).trans rfl))
    · exact zbo rfl trivial _ _ _ _ _ _ _ rfl rfl rfl (fun w hw => bin_lss _ _ _)
    · exact zmv rfl trivial _ rfl (by kernel_rfl)
    · exact zfa rfl ⟨_, rfl, by kernel_rfl⟩ _ _ _ _ rfl rfl (fun w hw => faE0 w _ _)
    · exact zld rfl ⟨_, rfl, by kernel_rfl⟩ _ _ _ rfl rfl (fun w hw => load_in ((zca hw.bx 0).trans rfl))
    · exact zbo rfl ⟨_, rfl, by kernel_rfl⟩ _ _ _ _ _ _ _ rfl rfl rfl (fun w hw => bin_gtr _ _ _)
    · exact step_pick rfl trivial _ _ _ false rfl (by kernel_rfl) (by kernel_rfl)
    · exact zmv rfl trivial _ rfl (by kernel_rfl)
    · exact zfa rfl ⟨_, rfl, by kernel_rfl⟩ _ _ _ _ rfl rfl (fun w hw => faE1 w _ _)
    · exact zld rfl ⟨_, rfl, by kernel_rfl⟩ _ _ _ rfl rfl (fun w hw => load_in ((zca hw.bx 1).trans rfl))
    · exact zbo rfl ⟨_, rfl, by kernel_rfl⟩ _ _ _ _ _ _ _ rfl rfl rfl (fun w hw => by rw [← h1_0]; exact bin_lss _ _ _)
    · exact step_pick rfl trivial _ _ _ false rfl (by kernel_rfl) (by kernel_rfl)
    · exact zmv rfl trivial _ rfl (by kernel_rfl)
    · exact zsk rfl 13 false 19 (.bool true) rfl rfl (by kernel_rfl) (by intro h; cases h) rfl
    · exact zsk rfl 13 false 19 (.bool true) rfl rfl (by kernel_rfl) (by intro h; cases h) rfl
    · exact zsk rfl 13 false 19 (.bool true) rfl rfl (by kernel_rfl) (by intro h; cases h) rfl
    · exact zsk rfl 13 false 19 (.bool true) rfl rfl (by kernel_rfl) (by intro h; cases h) rfl
    · exact zsk rfl 13 false 19 (.bool true) rfl rfl (by kernel_rfl) (by intro h; cases h) rfl
    · exact zsk rfl 13 false 19 (.bool true) rfl rfl (by kernel_rfl) (by intro h; cases h) rfl
    · exact zsk rfl 13 false 19 (.bool true) rfl rfl (by kernel_rfl) (by intro h; cases h) rfl
    · exact step_pick rfl trivial _ _ _ true rfl (by kernel_rfl) (by kernel_rfl)
    · exact zmv rfl trivial _ rfl (by kernel_rfl)
    · exact zsk rfl 22 false 28 (.bool true) rfl rfl (by kernel_rfl) (by intro h; cases h) rfl
    · exact zsk rfl 22 false 28 (.bool true) rfl rfl (by kernel_rfl) (by intro h; cases h) rfl
    · exact zsk rfl 22 false 28 (.bool true) rfl rfl (by kernel_rfl) (by intro h; cases h) rfl
    · exact step_pick rfl trivial _ _ _ true rfl (by kernel_rfl) (by kernel_rfl)
    · exact zmv rfl trivial _ rfl (by kernel_rfl)
    · exact zsk rfl 27 false 33 (.bool true) rfl rfl (by kernel_rfl) (by intro h; cases h) rfl
    · exact zsk rfl 27 false 33 (.bool true) rfl rfl (by kernel_rfl) (by intro h; cases h) rfl
    · exact zsk rfl 27 false 33 (.bool true) rfl rfl (by kernel_rfl) (by intro h; cases h) rfl
    · exact step_pick rfl trivial _ _ _ true rfl (by kernel_rfl) (by kernel_rfl)
    · exact zmv rfl trivial _ rfl (by kernel_rfl)
    · exact zsk rfl 32 false 38 (.bool true) rfl rfl (by kernel_rfl) (by intro h; cases h) rfl
    · exact zsk rfl 32 false 38 (.bool true) rfl rfl (by kernel_rfl) (by intro h; cases h) rfl
    · exact zsk rfl 32 false 38 (.bool true) rfl rfl (by kernel_rfl) (by intro h; cases h) rfl
    · exact step_pick rfl trivial _ _ _ true rfl (by kernel_rfl) (by kernel_rfl)
  intro W hW
  first | refine hK _ _ ?_ | refine (‹∀ (a : Act) (w : World), Code.wp Try.prog _ _ a w → _›) _ _ ?_ | skip
  simp only [finL, List.getD_cons_zero, List.getD_cons_succ, Nat.zero_add, Nat.reduceAdd, List.setIfInBounds_toArray, List.set_cons_zero, List.set_cons_succ]
  go_wp2
  go_ret
  exact ho_no (by unfold hold dpre; try simp only [h1_0]; rfl) hW.tn
 | false =>
  cases h1_1 : decide (nd ≥ n) with
  | true =>
    refine wp_region_any hmx ?_
    refine zwp (fun i__ => ([(.pointer (some ⟨w.heap.size, 0, none⟩)), (.int .i64 4), (.bool false), (.bool false), (.pointer (some ⟨w.heap.size, 0, none⟩)), (.int .i64 4), (.bool false), (.bool false), (.bool false), (.pointer (some ⟨w.heap.size, 1, none⟩)), (.int .i64 nd), (.bool false), (.bool false), (.bool false), (.pointer (some ⟨w.heap.size, 1, none⟩)), (.int .i64 nd), (.pointer (some ⟨y, 0, none⟩)), (.pointer (some ⟨y, 0, none⟩)), (.pointer (some ⟨y, 0, none⟩)), (.int .i64 n), (.bool true), (.bool true), (.bool true), undef, undef, undef, (.bool true), (.bool true), undef, undef, undef, (.bool true), (.bool true), undef, undef, undef, (.bool true)] : List Value).getD i__ undef) (fun V => JH w y w.heap.size n f D ⟨4, nd, li, ro, ta, of, du, he, un⟩ V) (by kernel_rfl) (hJ0.carry (Below.refl _ _).drew) ?_ ?_
    · refine (sqc ?_ (sqc ?_ (sqc ?_ (sqc ?_ (sqc ?_ (sqc ?_ (sqc ?_ (sqc ?_ (sqc ?_ (sqc ?_ (sqc ?_ (sqc ?_ (sqc ?_ (sqc ?_ (sqc ?_ (sqc ?_ (sqc ?_ (sqc ?_ (sqc ?_ (sqc ?_ (sqc ?_ (sqc ?_ (sqc ?_ (sqc ?_ (sqc ?_ (sqc ?_ (sqc ?_ (sqc ?_ (sqc ?_ (sqc ?_ (sqc ?_ (sqc ?_ (sqc ?_ (sqc ?_ (sqc ?_ (sqc ?_ (sqc ?_ trivial)))))))))))))))))))))))))))))))))))))
      · exact zfa rfl trivial _ _ _ _ rfl rfl (fun w hw => faE0 w _ _)
      · exact zld rfl trivial _ _ _ rfl rfl (fun w hw => load_in ((zca hw.bx 0).trans rfl))
      · exact zbo rfl trivial _ _ _ _ _ _ _ rfl rfl rfl (fun w hw => bin_lss _ _ _)
      · exact zmv rfl trivial _ rfl (by kernel_rfl)
      · exact zfa rfl ⟨_, rfl, by kernel_rfl⟩ _ _ _ _ rfl rfl (fun w hw => faE0 w _ _)
      · exact zld rfl ⟨_, rfl, by kernel_rfl⟩ _ _ _ rfl rfl (fun w hw => load_in ((zca hw.bx 0).trans rfl))
      · exact zbo rfl ⟨_, rfl, by kernel_rfl⟩ _ _ _ _ _ _ _ rfl rfl rfl (fun w hw => bin_gtr _ _ _)
      · exact step_pick rfl trivial _ _ _ false rfl (by kernel_rfl) (by kernel_rfl)
      · exact zmv rfl trivial _ rfl (by kernel_rfl)
      · exact zfa rfl ⟨_, rfl, by kernel_rfl⟩ _ _ _ _ rfl rfl (fun w hw => faE1 w _ _)
      · exact zld rfl ⟨_, rfl, by kernel_rfl⟩ _ _ _ rfl rfl (fun w hw => load_in ((zca hw.bx 1).trans rfl))
      · exact zbo rfl ⟨_, rfl, by kernel_rfl⟩ _ _ _ _ _ _ _ rfl rfl rfl (fun w hw => by rw [← h1_0]; exact bin_lss _ _ _)
      · exact step_pick rfl trivial _ _ _ false rfl (by kernel_rfl) (by kernel_rfl)
      · exact zmv rfl trivial _ rfl (by kernel_rfl)
      · exact zfa rfl ⟨_, rfl, by kernel_rfl⟩ _ _ _ _ rfl rfl (fun w hw => faE1 w _ _)
      · exact zld rfl ⟨_, rfl, by kernel_rfl⟩ _ _ _ rfl rfl (fun w hw => load_in ((zca hw.bx 1).trans rfl))
      · exact zmv rfl ⟨_, rfl, by kernel_rfl⟩ _ rfl (by kernel_rfl)
      · exact znc rfl ⟨_, rfl, by kernel_rfl⟩ _ _ _ rfl rfl rfl
      · exact zfa rfl ⟨_, rfl, by kernel_rfl⟩ _ _ _ _ rfl rfl (fun w hw => faD0 w _ _)
      · exact zld rfl ⟨_, rfl, by kernel_rfl⟩ _ _ _ rfl rfl (fun w hw => load_in hw.de.c0)
      · exact zbo rfl ⟨_, rfl, by kernel_rfl⟩ _ _ _ _ _ _ _ rfl rfl rfl (fun w hw => by rw [← h1_1]; exact bin_geq _ _ _)
      · exact step_pick rfl trivial _ _ _ false rfl (by kernel_rfl) (by kernel_rfl)
      · exact zmv rfl trivial _ rfl (by kernel_rfl)
      · exact zsk rfl 22 false 28 (.bool true) rfl rfl (by kernel_rfl) (by intro h; cases h) rfl
      · exact zsk rfl 22 false 28 (.bool true) rfl rfl (by kernel_rfl) (by intro h; cases h) rfl
      · exact zsk rfl 22 false 28 (.bool true) rfl rfl (by kernel_rfl) (by intro h; cases h) rfl
      · exact step_pick rfl trivial _ _ _ true rfl (by kernel_rfl) (by kernel_rfl)
      · exact zmv rfl trivial _ rfl (by kernel_rfl)
      · exact zsk rfl 27 false 33 (.bool true) rfl rfl (by kernel_rfl) (by intro h; cases h) rfl
      · exact zsk rfl 27 false 33 (.bool true) rfl rfl (by kernel_rfl) (by intro h; cases h) rfl
      · exact zsk rfl 27 false 33 (.bool true) rfl rfl (by kernel_rfl) (by intro h; cases h) rfl
      · exact step_pick rfl trivial _ _ _ true rfl (by kernel_rfl) (by kernel_rfl)
      · exact zmv rfl trivial _ rfl (by kernel_rfl)
      · exact zsk rfl 32 false 38 (.bool true) rfl rfl (by kernel_rfl) (by intro h; cases h) rfl
      · exact zsk rfl 32 false 38 (.bool true) rfl rfl (by kernel_rfl) (by intro h; cases h) rfl
      · exact zsk rfl 32 false 38 (.bool true) rfl rfl (by kernel_rfl) (by intro h; cases h) rfl
      · exact step_pick rfl trivial _ _ _ true rfl (by kernel_rfl) (by kernel_rfl)
    intro W hW
    first | refine hK _ _ ?_ | refine (‹∀ (a : Act) (w : World), Code.wp Try.prog _ _ a w → _›) _ _ ?_ | skip
    simp only [finL, List.getD_cons_zero, List.getD_cons_succ, Nat.zero_add, Nat.reduceAdd, List.setIfInBounds_toArray, List.set_cons_zero, List.set_cons_succ]
    go_wp2
    go_ret
    exact ho_no (by unfold hold dpre; try simp only [h1_0]; try simp only [h1_1]; rfl) hW.tn
  | false =>
    cases h1_2 : decide (li < 1) with
    | true =>
      refine wp_region_any hmx ?_
      refine zwp (fun i__ => ([(.pointer (some ⟨w.heap.size, 0, none⟩)), (.int .i64 4), (.bool false), (.bool false), (.pointer (some ⟨w.heap.size, 0, none⟩)), (.int .i64 4), (.bool false), (.bool false), (.bool false), (.pointer (some ⟨w.heap.size, 1, none⟩)), (.int .i64 nd), (.bool false), (.bool false), (.bool false), (.pointer (some ⟨w.heap.size, 1, none⟩)), (.int .i64 nd), (.pointer (some ⟨y, 0, none⟩)), (.pointer (some ⟨y, 0, none⟩)), (.pointer (some ⟨y, 0, none⟩)), (.int .i64 n), (.bool false), (.bool false), (.bool false), (.pointer (some ⟨w.heap.size, 2, none⟩)), (.int .i64 li), (.bool true), (.bool true), (.bool true), undef, undef, undef, (.bool true), (.bool true), undef, undef, undef, (.bool true)] : List Value).getD i__ undef) (fun V => JH w y w.heap.size n f D ⟨4, nd, li, ro, ta, of, du, he, un⟩ V) (by kernel_rfl) (hJ0.carry (Below.refl _ _).drew) ?_ ?_
      · refine (sqc ?_ (sqc ?_ (sqc ?_ (sqc ?_ (sqc ?_ (sqc ?_ (sqc ?_ (sqc ?_ (sqc ?_ (sqc ?_ (sqc ?_ (sqc ?_ (sqc ?_ (sqc ?_ (sqc ?_ (sqc ?_ (sqc ?_ (sqc ?_ (sqc ?_ (sqc ?_ (sqc ?_ (sqc ?_ (sqc ?_ (sqc ?_ (sqc ?_ (sqc ?_ (sqc ?_ (sqc ?_ (sqc ?_ (sqc ?_ (sqc ?_ (sqc ?_ (sqc ?_ (sqc ?_ (sqc ?_ (sqc ?_ (sqc ?_ trivial)))))))))))))))))))))))))))))))))))))
        · exact zfa rfl trivial _ _ _ _ rfl rfl (fun w hw => faE0 w _ _)
        · exact zld rfl trivial _ _ _ rfl rfl (fun w hw => load_in ((zca hw.bx 0).trans rfl))
        · exact zbo rfl trivial _ _ _ _ _ _ _ rfl rfl rfl (fun w hw => bin_lss _ _ _)
        · exact zmv rfl trivial _ rfl (by kernel_rfl)
        · exact zfa rfl ⟨_, rfl, by kernel_rfl⟩ _ _ _ _ rfl rfl (fun w hw => faE0 w _ _)
        · exact zld rfl ⟨_, rfl, by kernel_rfl⟩ _ _ _ rfl rfl (fun w hw => load_in ((zca hw.bx 0).trans rfl))
        · exact zbo rfl ⟨_, rfl, by kernel_rfl⟩ _ _ _ _ _ _ _ rfl rfl rfl (fun w hw => bin_gtr _ _ _)
        · exact step_pick rfl trivial _ _ _ false rfl (by kernel_rfl) (by kernel_rfl)
        · exact zmv rfl trivial _ rfl (by kernel_rfl)
        · exact zfa rfl ⟨_, rfl, by kernel_rfl⟩ _ _ _ _ rfl rfl (fun w hw => faE1 w _ _)
        · exact zld rfl ⟨_, rfl, by kernel_rfl⟩ _ _ _ rfl rfl (fun w hw => load_in ((zca hw.bx 1).trans rfl))
        · exact zbo rfl ⟨_, rfl, by kernel_rfl⟩ _ _ _ _ _ _ _ rfl rfl rfl (fun w hw => by rw [← h1_0]; exact bin_lss _ _ _)
        · exact step_pick rfl trivial _ _ _ false rfl (by kernel_rfl) (by kernel_rfl)
        · exact zmv rfl trivial _ rfl (by kernel_rfl)
        · exact zfa rfl ⟨_, rfl, by kernel_rfl⟩ _ _ _ _ rfl rfl (fun w hw => faE1 w _ _)
        · exact zld rfl ⟨_, rfl, by kernel_rfl⟩ _ _ _ rfl rfl (fun w hw => load_in ((zca hw.bx 1).trans rfl))
        · exact zmv rfl ⟨_, rfl, by kernel_rfl⟩ _ rfl (by kernel_rfl)
        · exact znc rfl ⟨_, rfl, by kernel_rfl⟩ _ _ _ rfl rfl rfl
        · exact zfa rfl ⟨_, rfl, by kernel_rfl⟩ _ _ _ _ rfl rfl (fun w hw => faD0 w _ _)
        · exact zld rfl ⟨_, rfl, by kernel_rfl⟩ _ _ _ rfl rfl (fun w hw => load_in hw.de.c0)
        · exact zbo rfl ⟨_, rfl, by kernel_rfl⟩ _ _ _ _ _ _ _ rfl rfl rfl (fun w hw => by rw [← h1_1]; exact bin_geq _ _ _)
        · exact step_pick rfl trivial _ _ _ false rfl (by kernel_rfl) (by kernel_rfl)
        · exact zmv rfl trivial _ rfl (by kernel_rfl)
        · exact zfa rfl ⟨_, rfl, by kernel_rfl⟩ _ _ _ _ rfl rfl (fun w hw => faE2 w _ _)
        · exact zld rfl ⟨_, rfl, by kernel_rfl⟩ _ _ _ rfl rfl (fun w hw => load_in ((zca hw.bx 2).trans rfl))
        · exact zbo rfl ⟨_, rfl, by kernel_rfl⟩ _ _ _ _ _ _ _ rfl rfl rfl (fun w hw => by rw [← h1_2]; exact bin_lss _ _ _)
        · exact step_pick rfl trivial _ _ _ false rfl (by kernel_rfl) (by kernel_rfl)
        · exact zmv rfl trivial _ rfl (by kernel_rfl)
        · exact zsk rfl 27 false 33 (.bool true) rfl rfl (by kernel_rfl) (by intro h; cases h) rfl
        · exact zsk rfl 27 false 33 (.bool true) rfl rfl (by kernel_rfl) (by intro h; cases h) rfl
        · exact zsk rfl 27 false 33 (.bool true) rfl rfl (by kernel_rfl) (by intro h; cases h) rfl
        · exact step_pick rfl trivial _ _ _ true rfl (by kernel_rfl) (by kernel_rfl)
        · exact zmv rfl trivial _ rfl (by kernel_rfl)
        · exact zsk rfl 32 false 38 (.bool true) rfl rfl (by kernel_rfl) (by intro h; cases h) rfl
        · exact zsk rfl 32 false 38 (.bool true) rfl rfl (by kernel_rfl) (by intro h; cases h) rfl
        · exact zsk rfl 32 false 38 (.bool true) rfl rfl (by kernel_rfl) (by intro h; cases h) rfl
        · exact step_pick rfl trivial _ _ _ true rfl (by kernel_rfl) (by kernel_rfl)
      intro W hW
      first | refine hK _ _ ?_ | refine (‹∀ (a : Act) (w : World), Code.wp Try.prog _ _ a w → _›) _ _ ?_ | skip
      simp only [finL, List.getD_cons_zero, List.getD_cons_succ, Nat.zero_add, Nat.reduceAdd, List.setIfInBounds_toArray, List.set_cons_zero, List.set_cons_succ]
      go_wp2
      go_ret
      exact ho_no (by unfold hold dpre; try simp only [h1_0]; try simp only [h1_1]; try simp only [h1_2]; rfl) hW.tn
    | false =>
      cases h1_3 : decide (li > 1073741824) with
      | true =>
        refine wp_region_any hmx ?_
        refine zwp (fun i__ => ([(.pointer (some ⟨w.heap.size, 0, none⟩)), (.int .i64 4), (.bool false), (.bool false), (.pointer (some ⟨w.heap.size, 0, none⟩)), (.int .i64 4), (.bool false), (.bool false), (.bool false), (.pointer (some ⟨w.heap.size, 1, none⟩)), (.int .i64 nd), (.bool false), (.bool false), (.bool false), (.pointer (some ⟨w.heap.size, 1, none⟩)), (.int .i64 nd), (.pointer (some ⟨y, 0, none⟩)), (.pointer (some ⟨y, 0, none⟩)), (.pointer (some ⟨y, 0, none⟩)), (.int .i64 n), (.bool false), (.bool false), (.bool false), (.pointer (some ⟨w.heap.size, 2, none⟩)), (.int .i64 li), (.bool false), (.bool false), (.bool false), (.pointer (some ⟨w.heap.size, 2, none⟩)), (.int .i64 li), (.bool true), (.bool true), (.bool true), undef, undef, undef, (.bool true)] : List Value).getD i__ undef) (fun V => JH w y w.heap.size n f D ⟨4, nd, li, ro, ta, of, du, he, un⟩ V) (by kernel_rfl) (hJ0.carry (Below.refl _ _).drew) ?_ ?_
        · refine (sqc ?_ (sqc ?_ (sqc ?_ (sqc ?_ (sqc ?_ (sqc ?_ (sqc ?_ (sqc ?_ (sqc ?_ (sqc ?_ (sqc ?_ (sqc ?_ (sqc ?_ (sqc ?_ (sqc ?_ (sqc ?_ (sqc ?_ (sqc ?_ (sqc ?_ (sqc ?_ (sqc ?_ (sqc ?_ (sqc ?_ (sqc ?_ (sqc ?_ (sqc ?_ (sqc ?_ (sqc ?_ (sqc ?_ (sqc ?_ (sqc ?_ (sqc ?_ (sqc ?_ (sqc ?_ (sqc ?_ (sqc ?_ (sqc ?_ trivial)))))))))))))))))))))))))))))))))))))
          · exact zfa rfl trivial _ _ _ _ rfl rfl (fun w hw => faE0 w _ _)
          · exact zld rfl trivial _ _ _ rfl rfl (fun w hw => load_in ((zca hw.bx 0).trans rfl))
          · exact zbo rfl trivial _ _ _ _ _ _ _ rfl rfl rfl (fun w hw => bin_lss _ _ _)
          · exact zmv rfl trivial _ rfl (by kernel_rfl)
          · exact zfa rfl ⟨_, rfl, by kernel_rfl⟩ _ _ _ _ rfl rfl (fun w hw => faE0 w _ _)
          · exact zld rfl ⟨_, rfl, by kernel_rfl⟩ _ _ _ rfl rfl (fun w hw => load_in ((zca hw.bx 0).trans rfl))
          · exact zbo rfl ⟨_, rfl, by kernel_rfl⟩ _ _ _ _ _ _ _ rfl rfl rfl (fun w hw => bin_gtr _ _ _)
          · exact step_pick rfl trivial _ _ _ false rfl (by kernel_rfl) (by kernel_rfl)
          · exact zmv rfl trivial _ rfl (by kernel_rfl)
          · exact zfa rfl ⟨_, rfl, by kernel_rfl⟩ _ _ _ _ rfl rfl (fun w hw => faE1 w _ _)
          · exact zld rfl ⟨_, rfl, by kernel_rfl⟩ _ _ _ rfl rfl (fun w hw => load_in ((zca hw.bx 1).trans rfl))
          · exact zbo rfl ⟨_, rfl, by kernel_rfl⟩ _ _ _ _ _ _ _ rfl rfl rfl (fun w hw => by rw [← h1_0]; exact bin_lss _ _ _)
          · exact step_pick rfl trivial _ _ _ false rfl (by kernel_rfl) (by kernel_rfl)
          · exact zmv rfl trivial _ rfl (by kernel_rfl)
          · exact zfa rfl ⟨_, rfl, by kernel_rfl⟩ _ _ _ _ rfl rfl (fun w hw => faE1 w _ _)
          · exact zld rfl ⟨_, rfl, by kernel_rfl⟩ _ _ _ rfl rfl (fun w hw => load_in ((zca hw.bx 1).trans rfl))
          · exact zmv rfl ⟨_, rfl, by kernel_rfl⟩ _ rfl (by kernel_rfl)
          · exact znc rfl ⟨_, rfl, by kernel_rfl⟩ _ _ _ rfl rfl rfl
          · exact zfa rfl ⟨_, rfl, by kernel_rfl⟩ _ _ _ _ rfl rfl (fun w hw => faD0 w _ _)
          · exact zld rfl ⟨_, rfl, by kernel_rfl⟩ _ _ _ rfl rfl (fun w hw => load_in hw.de.c0)
          · exact zbo rfl ⟨_, rfl, by kernel_rfl⟩ _ _ _ _ _ _ _ rfl rfl rfl (fun w hw => by rw [← h1_1]; exact bin_geq _ _ _)
          · exact step_pick rfl trivial _ _ _ false rfl (by kernel_rfl) (by kernel_rfl)
          · exact zmv rfl trivial _ rfl (by kernel_rfl)
          · exact zfa rfl ⟨_, rfl, by kernel_rfl⟩ _ _ _ _ rfl rfl (fun w hw => faE2 w _ _)
          · exact zld rfl ⟨_, rfl, by kernel_rfl⟩ _ _ _ rfl rfl (fun w hw => load_in ((zca hw.bx 2).trans rfl))
          · exact zbo rfl ⟨_, rfl, by kernel_rfl⟩ _ _ _ _ _ _ _ rfl rfl rfl (fun w hw => by rw [← h1_2]; exact bin_lss _ _ _)
          · exact step_pick rfl trivial _ _ _ false rfl (by kernel_rfl) (by kernel_rfl)
          · exact zmv rfl trivial _ rfl (by kernel_rfl)
          · exact zfa rfl ⟨_, rfl, by kernel_rfl⟩ _ _ _ _ rfl rfl (fun w hw => faE2 w _ _)
          · exact zld rfl ⟨_, rfl, by kernel_rfl⟩ _ _ _ rfl rfl (fun w hw => load_in ((zca hw.bx 2).trans rfl))
          · exact zbo rfl ⟨_, rfl, by kernel_rfl⟩ _ _ _ _ _ _ _ rfl rfl rfl (fun w hw => by rw [← h1_3]; exact bin_gtr _ _ _)
          · exact step_pick rfl trivial _ _ _ false rfl (by kernel_rfl) (by kernel_rfl)
          · exact zmv rfl trivial _ rfl (by kernel_rfl)
          · exact zsk rfl 32 false 38 (.bool true) rfl rfl (by kernel_rfl) (by intro h; cases h) rfl
          · exact zsk rfl 32 false 38 (.bool true) rfl rfl (by kernel_rfl) (by intro h; cases h) rfl
          · exact zsk rfl 32 false 38 (.bool true) rfl rfl (by kernel_rfl) (by intro h; cases h) rfl
          · exact step_pick rfl trivial _ _ _ true rfl (by kernel_rfl) (by kernel_rfl)
        intro W hW
        first | refine hK _ _ ?_ | refine (‹∀ (a : Act) (w : World), Code.wp Try.prog _ _ a w → _›) _ _ ?_ | skip
        simp only [finL, List.getD_cons_zero, List.getD_cons_succ, Nat.zero_add, Nat.reduceAdd, List.setIfInBounds_toArray, List.set_cons_zero, List.set_cons_succ]
        go_wp2
        go_ret
        exact ho_no (by unfold hold dpre; try simp only [h1_0]; try simp only [h1_1]; try simp only [h1_2]; try simp only [h1_3]; rfl) hW.tn
      | false =>
        cases h1_4 : eqEv ⟨4, nd, li, ro, ta, of, du, he, un⟩ (bareE ⟨4, nd, li, ro, ta, of, du, he, un⟩) with
        | true =>
          refine wp_region_any hmx ?_
          refine zwp (fun i__ => ([(.pointer (some ⟨w.heap.size, 0, none⟩)), (.int .i64 4), (.bool false), (.bool false), (.pointer (some ⟨w.heap.size, 0, none⟩)), (.int .i64 4), (.bool false), (.bool false), (.bool false), (.pointer (some ⟨w.heap.size, 1, none⟩)), (.int .i64 nd), (.bool false), (.bool false), (.bool false), (.pointer (some ⟨w.heap.size, 1, none⟩)), (.int .i64 nd), (.pointer (some ⟨y, 0, none⟩)), (.pointer (some ⟨y, 0, none⟩)), (.pointer (some ⟨y, 0, none⟩)), (.int .i64 n), (.bool false), (.bool false), (.bool false), (.pointer (some ⟨w.heap.size, 2, none⟩)), (.int .i64 li), (.bool false), (.bool false), (.bool false), (.pointer (some ⟨w.heap.size, 2, none⟩)), (.int .i64 li), (.bool false), (.bool false), (.bool false), (evV ⟨4, nd, li, ro, ta, of, du, he, un⟩), (.bool true), (.bool false), (.bool false)] : List Value).getD i__ undef) (fun V => JH w y w.heap.size n f D ⟨4, nd, li, ro, ta, of, du, he, un⟩ V) (by kernel_rfl) (hJ0.carry (Below.refl _ _).drew) ?_ ?_
          · refine (sqc ?_ (sqc ?_ (sqc ?_ (sqc ?_ (sqc ?_ (sqc ?_ (sqc ?_ (sqc ?_ (sqc ?_ (sqc ?_ (sqc ?_ (sqc ?_ (sqc ?_ (sqc ?_ (sqc ?_ (sqc ?_ (sqc ?_ (sqc ?_ (sqc ?_ (sqc ?_ (sqc ?_ (sqc ?_ (sqc ?_ (sqc ?_ (sqc ?_ (sqc ?_ (sqc ?_ (sqc ?_ (sqc ?_ (sqc ?_ (sqc ?_ (sqc ?_ (sqc ?_ (sqc ?_ (sqc ?_ (sqc ?_ (sqc ?_ trivial)))))))))))))))))))))))))))))))))))))
            · exact zfa rfl trivial _ _ _ _ rfl rfl (fun w hw => faE0 w _ _)
            · exact zld rfl trivial _ _ _ rfl rfl (fun w hw => load_in ((zca hw.bx 0).trans rfl))
            · exact zbo rfl trivial _ _ _ _ _ _ _ rfl rfl rfl (fun w hw => bin_lss _ _ _)
            · exact zmv rfl trivial _ rfl (by kernel_rfl)
            · exact zfa rfl ⟨_, rfl, by kernel_rfl⟩ _ _ _ _ rfl rfl (fun w hw => faE0 w _ _)
            · exact zld rfl ⟨_, rfl, by kernel_rfl⟩ _ _ _ rfl rfl (fun w hw => load_in ((zca hw.bx 0).trans rfl))
            · exact zbo rfl ⟨_, rfl, by kernel_rfl⟩ _ _ _ _ _ _ _ rfl rfl rfl (fun w hw => bin_gtr _ _ _)
            · exact step_pick rfl trivial _ _ _ false rfl (by kernel_rfl) (by kernel_rfl)
            · exact zmv rfl trivial _ rfl (by kernel_rfl)
            · exact zfa rfl ⟨_, rfl, by kernel_rfl⟩ _ _ _ _ rfl rfl (fun w hw => faE1 w _ _)
            · exact zld rfl ⟨_, rfl, by kernel_rfl⟩ _ _ _ rfl rfl (fun w hw => load_in ((zca hw.bx 1).trans rfl))
            · exact zbo rfl ⟨_, rfl, by kernel_rfl⟩ _ _ _ _ _ _ _ rfl rfl rfl (fun w hw => by rw [← h1_0]; exact bin_lss _ _ _)
            · exact step_pick rfl trivial _ _ _ false rfl (by kernel_rfl) (by kernel_rfl)
            · exact zmv rfl trivial _ rfl (by kernel_rfl)
            · exact zfa rfl ⟨_, rfl, by kernel_rfl⟩ _ _ _ _ rfl rfl (fun w hw => faE1 w _ _)
            · exact zld rfl ⟨_, rfl, by kernel_rfl⟩ _ _ _ rfl rfl (fun w hw => load_in ((zca hw.bx 1).trans rfl))
            · exact zmv rfl ⟨_, rfl, by kernel_rfl⟩ _ rfl (by kernel_rfl)
            · exact znc rfl ⟨_, rfl, by kernel_rfl⟩ _ _ _ rfl rfl rfl
            · exact zfa rfl ⟨_, rfl, by kernel_rfl⟩ _ _ _ _ rfl rfl (fun w hw => faD0 w _ _)
            · exact zld rfl ⟨_, rfl, by kernel_rfl⟩ _ _ _ rfl rfl (fun w hw => load_in hw.de.c0)
            · exact zbo rfl ⟨_, rfl, by kernel_rfl⟩ _ _ _ _ _ _ _ rfl rfl rfl (fun w hw => by rw [← h1_1]; exact bin_geq _ _ _)
            · exact step_pick rfl trivial _ _ _ false rfl (by kernel_rfl) (by kernel_rfl)
            · exact zmv rfl trivial _ rfl (by kernel_rfl)
            · exact zfa rfl ⟨_, rfl, by kernel_rfl⟩ _ _ _ _ rfl rfl (fun w hw => faE2 w _ _)
            · exact zld rfl ⟨_, rfl, by kernel_rfl⟩ _ _ _ rfl rfl (fun w hw => load_in ((zca hw.bx 2).trans rfl))
            · exact zbo rfl ⟨_, rfl, by kernel_rfl⟩ _ _ _ _ _ _ _ rfl rfl rfl (fun w hw => by rw [← h1_2]; exact bin_lss _ _ _)
            · exact step_pick rfl trivial _ _ _ false rfl (by kernel_rfl) (by kernel_rfl)
            · exact zmv rfl trivial _ rfl (by kernel_rfl)
            · exact zfa rfl ⟨_, rfl, by kernel_rfl⟩ _ _ _ _ rfl rfl (fun w hw => faE2 w _ _)
            · exact zld rfl ⟨_, rfl, by kernel_rfl⟩ _ _ _ rfl rfl (fun w hw => load_in ((zca hw.bx 2).trans rfl))
            · exact zbo rfl ⟨_, rfl, by kernel_rfl⟩ _ _ _ _ _ _ _ rfl rfl rfl (fun w hw => by rw [← h1_3]; exact bin_gtr _ _ _)
            · exact step_pick rfl trivial _ _ _ false rfl (by kernel_rfl) (by kernel_rfl)
            · exact zmv rfl trivial _ rfl (by kernel_rfl)
            · exact zld rfl ⟨_, rfl, by kernel_rfl⟩ _ _ _ rfl rfl (fun w hw => load_bx hw.bx)
            · exact zsc rfl ⟨_, rfl, by kernel_rfl⟩ 17 _ _ [(evV ⟨4, nd, li, ro, ta, of, du, he, un⟩)] rfl (by kernel_rfl) (enters_of Try.func17 (by kernel_rfl) rfl) (fun w hw => (rbare_any ⟨4, nd, li, ro, ta, of, du, he, un⟩ hhe hun w).mono (by rintro e w' ⟨rfl, hb⟩; exact ⟨congrArg (fun z => Ending.returned (Value.bool z)) h1_4, hw.carry hb⟩))
            · exact step_unOp rfl ⟨_, rfl, by kernel_rfl⟩ _ _ _ _ rfl rfl (fun w hw => rfl)
            · exact step_pick rfl trivial _ _ _ false rfl (by kernel_rfl) (by kernel_rfl)
          intro W hW
          first | refine hK _ _ ?_ | refine (‹∀ (a : Act) (w : World), Code.wp Try.prog _ _ a w → _›) _ _ ?_ | skip
          simp only [finL, List.getD_cons_zero, List.getD_cons_succ, Nat.zero_add, Nat.reduceAdd, List.setIfInBounds_toArray, List.set_cons_zero, List.set_cons_succ]
          obtain ⟨W1, rfl⟩ : ∃ V, V = W := ⟨_, rfl⟩
          have hJ1 := hW
          clear hW
          have HP : dpre n ⟨4, nd, li, ro, ta, of, du, he, un⟩ = false := by unfold dpre; try simp only [h1_0]; try simp only [h1_1]; try simp only [h1_2]; try simp only [h1_3]; try simp only [h1_4]; rfl
          have hnd : 0 ≤ nd ∧ nd < n := by
            have q0 := of_decide_eq_false h1_0
            have q1 := of_decide_eq_false h1_1
            omega
          obtain ⟨m, hmx2⟩ := Int.eq_ofNat_of_zero_le hnd.1
          have HX : Hid (nd = (m : Int)) := hmx2
          have hml : m < 100 := by omega
          obtain ⟨u, hm⟩ : ∃ u, D.ds[m]? = some u := ⟨_, List.getElem?_eq_getElem (by rw [h.ln]; omega)⟩
          clear hmx2 hnd
          go_wp2
          refine wp_region_any hmx ?_
          refine zwp (fun i__ => ([(.pointer (some ⟨y, 0, none⟩)), (.pointer (some ⟨w.heap.size, 1, none⟩)), (.int .i64 nd), (.pointer (some ⟨y, 0, none⟩)), (.pointer (some ⟨y, 2, none⟩)), (.pointer (some ⟨y, 2 + m * 6, none⟩)), (.pointer (some ⟨y, 2 + m * 6, none⟩))] : List Value).getD i__ undef) (fun V => JH w y w.heap.size n f D ⟨4, nd, li, ro, ta, of, du, he, un⟩ V) (by kernel_rfl) (hJ1.carry (Below.refl _ _).drew) ?_ ?_
          · refine (sqc ?_ (sqc ?_ (sqc ?_ (sqc ?_ (sqc ?_ (sqc ?_ (sqc ?_ trivial)))))))
            · exact zmv rfl trivial _ rfl (by kernel_rfl)
            · exact zfa rfl trivial _ _ _ _ rfl rfl (fun w hw => faE1 w _ _)
            · exact zld rfl trivial _ _ _ rfl rfl (fun w hw => load_in ((zca hw.bx 1).trans rfl))
            · exact znc rfl trivial _ _ _ rfl rfl rfl
            · exact zfa rfl trivial _ _ _ _ rfl rfl (fun w hw => faD2 w _ _)
            · exact zia rfl trivial _ _ _ _ _ rfl rfl rfl (fun w hw => by rw [HX.out]; exact idx_d y m hml w)
            · exact zas rfl trivial _ rfl (by kernel_rfl) (fun _ h => h)
          intro W hW
          first | refine hK _ _ ?_ | refine (‹∀ (a : Act) (w : World), Code.wp Try.prog _ _ a w → _›) _ _ ?_ | skip
          simp only [finL, List.getD_cons_zero, List.getD_cons_succ, Nat.zero_add, Nat.reduceAdd, List.setIfInBounds_toArray, List.set_cons_zero, List.set_cons_succ]
          obtain ⟨W3, rfl⟩ : ∃ V, V = W := ⟨_, rfl⟩
          have hJ3 := hW
          clear hW
          go_wp2
          cases h4_0 : D.rb with
          | true =>
            cases h4_1 : (nd != D.c.nd) with
            | true =>
              refine wp_region_any hmx ?_
              refine zwp (fun i__ => ([(.pointer (some ⟨y, 0, none⟩)), (.pointer (some ⟨y, 0, none⟩)), (.pointer (some ⟨y, 602, none⟩)), (.bool true), (.bool true), (.pointer (some ⟨w.heap.size, 1, none⟩)), (.int .i64 nd), (.pointer (some ⟨y, 0, none⟩)), (.pointer (some ⟨y, 0, none⟩)), (.pointer (some ⟨y, 603, none⟩)), (.pointer (some ⟨y, 604, none⟩)), (.int .i64 D.c.nd), (.bool true), (.bool true), undef, undef, undef, undef, undef, undef, undef, undef, (.bool true), (.bool true), (.bool true), undef, undef, undef, undef, undef, undef, undef, undef, undef, undef, (.bool true)] : List Value).getD i__ undef) (fun V => JH w y w.heap.size n f D ⟨4, nd, li, ro, ta, of, du, he, un⟩ V) (by kernel_rfl) (hJ3.carry (Below.refl _ _).drew) ?_ ?_
              · refine (sqc ?_ (sqc ?_ (sqc ?_ (sqc ?_ (sqc ?_ (sqc ?_ (sqc ?_ (sqc ?_ (sqc ?_ (sqc ?_ (sqc ?_ (sqc ?_ (sqc ?_ (sqc ?_ (sqc ?_ (sqc ?_ (sqc ?_ (sqc ?_ (sqc ?_ (sqc ?_ (sqc ?_ (sqc ?_ (sqc ?_ (sqc ?_ (sqc ?_ (sqc ?_ (sqc ?_ (sqc ?_ (sqc ?_ (sqc ?_ (sqc ?_ (sqc ?_ (sqc ?_ (sqc ?_ (sqc ?_ (sqc ?_ trivial))))))))))))))))))))))))))))))))))))
                · exact zmv rfl trivial _ rfl (by kernel_rfl)
                · exact znc rfl trivial _ _ _ rfl rfl rfl
                · exact zfa rfl trivial _ _ _ _ rfl rfl (fun w hw => faD3 w _ _)
                · exact zld rfl trivial _ _ _ rfl rfl (fun w hw => by rw [← h4_0]; exact load_bo hw.de.crb)
                · exact zmv rfl trivial _ rfl (by kernel_rfl)
                · exact zfa rfl ⟨_, rfl, by kernel_rfl⟩ _ _ _ _ rfl rfl (fun w hw => faE1 w _ _)
                · exact zld rfl ⟨_, rfl, by kernel_rfl⟩ _ _ _ rfl rfl (fun w hw => load_in ((zca hw.bx 1).trans rfl))
                · exact zmv rfl ⟨_, rfl, by kernel_rfl⟩ _ rfl (by kernel_rfl)
                · exact znc rfl ⟨_, rfl, by kernel_rfl⟩ _ _ _ rfl rfl rfl
                · exact zfa rfl ⟨_, rfl, by kernel_rfl⟩ _ _ _ _ rfl rfl (fun w hw => faD4 w _ _)
                · exact zfa rfl ⟨_, rfl, by kernel_rfl⟩ _ _ _ _ rfl rfl (fun w hw => faE1 w _ _)
                · exact zld rfl ⟨_, rfl, by kernel_rfl⟩ _ _ _ rfl rfl (fun w hw => load_in (hw.de.cc (j := 1) (by decide) rfl))
                · exact zbo rfl ⟨_, rfl, by kernel_rfl⟩ _ _ _ _ _ _ _ rfl rfl rfl (fun w hw => by rw [← h4_1]; exact bin_neq _ _ _)
                · exact zmv rfl ⟨_, rfl, by kernel_rfl⟩ _ rfl (by kernel_rfl)
                · exact zsk rfl 13 false 62 (.bool true) rfl rfl (by kernel_rfl) (by intro h; cases h) rfl
                · exact zsk rfl 13 false 62 (.bool true) rfl rfl (by kernel_rfl) (by intro h; cases h) rfl
                · exact zsk rfl 13 false 62 (.bool true) rfl rfl (by kernel_rfl) (by intro h; cases h) rfl
                · exact zsk rfl 13 false 62 (.bool true) rfl rfl (by kernel_rfl) (by intro h; cases h) rfl
                · exact zsk rfl 17 true 66 undef rfl rfl (by kernel_rfl) (by intro h; cases h) rfl
                · exact zsk rfl 17 true 66 undef rfl rfl (by kernel_rfl) (by intro h; cases h) rfl
                · exact zsk rfl 17 true 66 undef rfl rfl (by kernel_rfl) (by intro h; cases h) rfl
                · exact zsk rfl 13 false 62 (.bool true) rfl rfl (by kernel_rfl) (by intro h; cases h) rfl
                · exact step_pick rfl ⟨_, rfl, by kernel_rfl⟩ _ _ _ true rfl (by kernel_rfl) (by kernel_rfl)
                · exact step_pick rfl trivial _ _ _ true rfl (by kernel_rfl) (by kernel_rfl)
                · exact zmv rfl trivial _ rfl (by kernel_rfl)
                · exact zsk rfl 24 false 73 (.bool true) rfl rfl (by kernel_rfl) (by intro h; cases h) rfl
                · exact zsk rfl 24 false 73 (.bool true) rfl rfl (by kernel_rfl) (by intro h; cases h) rfl
                · exact zsk rfl 24 false 73 (.bool true) rfl rfl (by kernel_rfl) (by intro h; cases h) rfl
                · exact zsk rfl 24 false 73 (.bool true) rfl rfl (by kernel_rfl) (by intro h; cases h) rfl
                · exact zsk rfl 24 false 73 (.bool true) rfl rfl (by kernel_rfl) (by intro h; cases h) rfl
                · exact zsk rfl 24 false 73 (.bool true) rfl rfl (by kernel_rfl) (by intro h; cases h) rfl
                · exact zsk rfl 30 true 79 undef rfl rfl (by kernel_rfl) (by intro h; cases h) rfl
                · exact zsk rfl 30 true 79 undef rfl rfl (by kernel_rfl) (by intro h; cases h) rfl
                · exact zsk rfl 30 true 79 undef rfl rfl (by kernel_rfl) (by intro h; cases h) rfl
                · exact zsk rfl 24 false 73 (.bool true) rfl rfl (by kernel_rfl) (by intro h; cases h) rfl
                · exact step_pick rfl trivial _ _ _ true rfl (by kernel_rfl) (by kernel_rfl)
              intro W hW
              first | refine hK _ _ ?_ | refine (‹∀ (a : Act) (w : World), Code.wp Try.prog _ _ a w → _›) _ _ ?_ | skip
              simp only [finL, List.getD_cons_zero, List.getD_cons_succ, Nat.zero_add, Nat.reduceAdd, List.setIfInBounds_toArray, List.set_cons_zero, List.set_cons_succ]
              go_wp2
              go_ret
              exact ho_no (by unfold hold; rw [HP]; unfold rwbad; try simp only [h4_0]; try simp only [h4_1]; rfl) hW.tn
            | false =>
              refine wp_region_any hmx ?_
              refine zwp (fun i__ => ([(.pointer (some ⟨y, 0, none⟩)), (.pointer (some ⟨y, 0, none⟩)), (.pointer (some ⟨y, 602, none⟩)), (.bool true), (.bool true), (.pointer (some ⟨w.heap.size, 1, none⟩)), (.int .i64 nd), (.pointer (some ⟨y, 0, none⟩)), (.pointer (some ⟨y, 0, none⟩)), (.pointer (some ⟨y, 603, none⟩)), (.pointer (some ⟨y, 604, none⟩)), (.int .i64 D.c.nd), (.bool false), (.bool false), (.pointer (some ⟨w.heap.size, 0, none⟩)), (.int .i64 4), (.bool true), (.bool true), (.pointer (some ⟨w.heap.size, 0, none⟩)), (.int .i64 4), (.bool false), (.bool false), (.bool false), (.bool false), (.bool false), (.pointer (some ⟨y, 0, none⟩)), (.pointer (some ⟨y, 0, none⟩)), (.pointer (some ⟨y, 602, none⟩)), (.bool true), (.bool false), (.bool false), undef, undef, undef, (.bool false), (.bool false)] : List Value).getD i__ undef) (fun V => JH w y w.heap.size n f D ⟨4, nd, li, ro, ta, of, du, he, un⟩ V) (by kernel_rfl) (hJ3.carry (Below.refl _ _).drew) ?_ ?_
              · refine (sqc ?_ (sqc ?_ (sqc ?_ (sqc ?_ (sqc ?_ (sqc ?_ (sqc ?_ (sqc ?_ (sqc ?_ (sqc ?_ (sqc ?_ (sqc ?_ (sqc ?_ (sqc ?_ (sqc ?_ (sqc ?_ (sqc ?_ (sqc ?_ (sqc ?_ (sqc ?_ (sqc ?_ (sqc ?_ (sqc ?_ (sqc ?_ (sqc ?_ (sqc ?_ (sqc ?_ (sqc ?_ (sqc ?_ (sqc ?_ (sqc ?_ (sqc ?_ (sqc ?_ (sqc ?_ (sqc ?_ (sqc ?_ trivial))))))))))))))))))))))))))))))))))))
                · exact zmv rfl trivial _ rfl (by kernel_rfl)
                · exact znc rfl trivial _ _ _ rfl rfl rfl
                · exact zfa rfl trivial _ _ _ _ rfl rfl (fun w hw => faD3 w _ _)
                · exact zld rfl trivial _ _ _ rfl rfl (fun w hw => by rw [← h4_0]; exact load_bo hw.de.crb)
                · exact zmv rfl trivial _ rfl (by kernel_rfl)
                · exact zfa rfl ⟨_, rfl, by kernel_rfl⟩ _ _ _ _ rfl rfl (fun w hw => faE1 w _ _)
                · exact zld rfl ⟨_, rfl, by kernel_rfl⟩ _ _ _ rfl rfl (fun w hw => load_in ((zca hw.bx 1).trans rfl))
                · exact zmv rfl ⟨_, rfl, by kernel_rfl⟩ _ rfl (by kernel_rfl)
                · exact znc rfl ⟨_, rfl, by kernel_rfl⟩ _ _ _ rfl rfl rfl
                · exact zfa rfl ⟨_, rfl, by kernel_rfl⟩ _ _ _ _ rfl rfl (fun w hw => faD4 w _ _)
                · exact zfa rfl ⟨_, rfl, by kernel_rfl⟩ _ _ _ _ rfl rfl (fun w hw => faE1 w _ _)
                · exact zld rfl ⟨_, rfl, by kernel_rfl⟩ _ _ _ rfl rfl (fun w hw => load_in (hw.de.cc (j := 1) (by decide) rfl))
                · exact zbo rfl ⟨_, rfl, by kernel_rfl⟩ _ _ _ _ _ _ _ rfl rfl rfl (fun w hw => by rw [← h4_1]; exact bin_neq _ _ _)
                · exact zmv rfl ⟨_, rfl, by kernel_rfl⟩ _ rfl (by kernel_rfl)
                · exact zfa rfl ⟨_, rfl, by kernel_rfl⟩ _ _ _ _ rfl rfl (fun w hw => faE0 w _ _)
                · exact zld rfl ⟨_, rfl, by kernel_rfl⟩ _ _ _ rfl rfl (fun w hw => load_in ((zca hw.bx 0).trans rfl))
                · exact zbo rfl ⟨_, rfl, by kernel_rfl⟩ _ _ _ _ _ _ _ rfl rfl rfl (fun w hw => bin_neq _ _ _)
                · exact zmv rfl ⟨_, rfl, by kernel_rfl⟩ _ rfl (by kernel_rfl)
                · exact zfa rfl ⟨_, rfl, by kernel_rfl⟩ _ _ _ _ rfl rfl (fun w hw => faE0 w _ _)
                · exact zld rfl ⟨_, rfl, by kernel_rfl⟩ _ _ _ rfl rfl (fun w hw => load_in ((zca hw.bx 0).trans rfl))
                · exact zbo rfl ⟨_, rfl, by kernel_rfl⟩ _ _ _ _ _ _ _ rfl rfl rfl (fun w hw => bin_neq _ _ _)
                · exact step_pick rfl ⟨_, rfl, by kernel_rfl⟩ _ _ _ true rfl (by kernel_rfl) (by kernel_rfl)
                · exact step_pick rfl ⟨_, rfl, by kernel_rfl⟩ _ _ _ false rfl (by kernel_rfl) (by kernel_rfl)
                · exact step_pick rfl trivial _ _ _ true rfl (by kernel_rfl) (by kernel_rfl)
                · exact zmv rfl trivial _ rfl (by kernel_rfl)
                · exact zmv rfl ⟨_, rfl, by kernel_rfl⟩ _ rfl (by kernel_rfl)
                · exact znc rfl ⟨_, rfl, by kernel_rfl⟩ _ _ _ rfl rfl rfl
                · exact zfa rfl ⟨_, rfl, by kernel_rfl⟩ _ _ _ _ rfl rfl (fun w hw => faD3 w _ _)
                · exact zld rfl ⟨_, rfl, by kernel_rfl⟩ _ _ _ rfl rfl (fun w hw => by rw [← h4_0]; exact load_bo hw.de.crb)
                · exact step_unOp rfl ⟨_, rfl, by kernel_rfl⟩ _ _ _ _ rfl rfl (fun w hw => rfl)
                · exact zmv rfl ⟨_, rfl, by kernel_rfl⟩ _ rfl (by kernel_rfl)
                · exact zsk rfl 30 true 79 (.bool false) rfl rfl (by kernel_rfl) (by intro h; cases h) rfl
                · exact zsk rfl 30 true 79 (.bool false) rfl rfl (by kernel_rfl) (by intro h; cases h) rfl
                · exact zsk rfl 30 true 79 (.bool false) rfl rfl (by kernel_rfl) (by intro h; cases h) rfl
                · exact step_pick rfl ⟨_, rfl, by kernel_rfl⟩ _ _ _ false rfl (by kernel_rfl) (by kernel_rfl)
                · exact step_pick rfl trivial _ _ _ false rfl (by kernel_rfl) (by kernel_rfl)
              intro W hW
              first | refine hK _ _ ?_ | refine (‹∀ (a : Act) (w : World), Code.wp Try.prog _ _ a w → _›) _ _ ?_ | skip
              simp only [finL, List.getD_cons_zero, List.getD_cons_succ, Nat.zero_add, Nat.reduceAdd, List.setIfInBounds_toArray, List.set_cons_zero, List.set_cons_succ]
              obtain ⟨W4, rfl⟩ : ∃ V, V = W := ⟨_, rfl⟩
              have hJ4 := hW
              clear hW
              have HR : rwbad D ⟨4, nd, li, ro, ta, of, du, he, un⟩ = false := by unfold rwbad; try simp only [h4_0]; try simp only [h4_1]; rfl
              have HO := hold_at (f := f) HP HR hm HX.out
              go_wp2
              cases h6_0 : u.up with
              | true =>
                cases h6_1 : (li != u.life) with
                | true =>
                  refine wp_region_any hmx ?_
                  refine zwp (fun i__ => ([(.pointer (some ⟨w.heap.size, 0, none⟩)), (.int .i64 4), (.bool true), (.bool true), (.pointer (some ⟨y, 2 + m * 6, none⟩)), (.pointer (some ⟨y, 2 + m * 6, none⟩)), (.pointer (some ⟨y, 2 + m * 6, none⟩)), (.bool true), (.bool false), (.bool false), (.pointer (some ⟨w.heap.size, 2, none⟩)), (.int .i64 li), (.pointer (some ⟨y, 2 + m * 6, none⟩)), (.pointer (some ⟨y, 2 + m * 6, none⟩)), (.pointer (some ⟨y, 2 + m * 6 + 1, none⟩)), (.int .i64 u.life), (.bool true), (.bool true), (.bool true)] : List Value).getD i__ undef) (fun V => JH w y w.heap.size n f D ⟨4, nd, li, ro, ta, of, du, he, un⟩ V) (by kernel_rfl) (hJ4.carry (Below.refl _ _).drew) ?_ ?_
                  · refine (sqc ?_ (sqc ?_ (sqc ?_ (sqc ?_ (sqc ?_ (sqc ?_ (sqc ?_ (sqc ?_ (sqc ?_ (sqc ?_ (sqc ?_ (sqc ?_ (sqc ?_ (sqc ?_ (sqc ?_ (sqc ?_ (sqc ?_ (sqc ?_ (sqc ?_ trivial)))))))))))))))))))
                    · exact zfa rfl trivial _ _ _ _ rfl rfl (fun w hw => faE0 w _ _)
                    · exact zld rfl trivial _ _ _ rfl rfl (fun w hw => load_in ((zca hw.bx 0).trans rfl))
                    · exact zbo rfl trivial _ _ _ _ _ _ _ rfl rfl rfl (fun w hw => bin_neq _ _ _)
                    · exact zmv rfl trivial _ rfl (by kernel_rfl)
                    · exact zmv rfl ⟨_, rfl, by kernel_rfl⟩ _ rfl (by kernel_rfl)
                    · exact znc rfl ⟨_, rfl, by kernel_rfl⟩ _ _ _ rfl rfl rfl
                    · exact zfa rfl ⟨_, rfl, by kernel_rfl⟩ _ _ _ _ rfl rfl (fun w hw => faM0 w _ _)
                    · exact zld rfl ⟨_, rfl, by kernel_rfl⟩ _ _ _ rfl rfl (fun w hw => by rw [← h6_0]; exact load_bo (hw.de.cn hm (j := 0) (by decide) rfl))
                    · exact step_unOp rfl ⟨_, rfl, by kernel_rfl⟩ _ _ _ _ rfl rfl (fun w hw => rfl)
                    · exact zmv rfl ⟨_, rfl, by kernel_rfl⟩ _ rfl (by kernel_rfl)
                    · exact zfa rfl ⟨_, rfl, by kernel_rfl⟩ _ _ _ _ rfl rfl (fun w hw => faE2 w _ _)
                    · exact zld rfl ⟨_, rfl, by kernel_rfl⟩ _ _ _ rfl rfl (fun w hw => load_in ((zca hw.bx 2).trans rfl))
                    · exact zmv rfl ⟨_, rfl, by kernel_rfl⟩ _ rfl (by kernel_rfl)
                    · exact znc rfl ⟨_, rfl, by kernel_rfl⟩ _ _ _ rfl rfl rfl
                    · exact zfa rfl ⟨_, rfl, by kernel_rfl⟩ _ _ _ _ rfl rfl (fun w hw => faM1 w _ _)
                    · exact zld rfl ⟨_, rfl, by kernel_rfl⟩ _ _ _ rfl rfl (fun w hw => load_in (hw.de.cn hm (j := 1) (by decide) rfl))
                    · exact zbo rfl ⟨_, rfl, by kernel_rfl⟩ _ _ _ _ _ _ _ rfl rfl rfl (fun w hw => by rw [← h6_1]; exact bin_neq _ _ _)
                    · exact step_pick rfl ⟨_, rfl, by kernel_rfl⟩ _ _ _ false rfl (by kernel_rfl) (by kernel_rfl)
                    · exact step_pick rfl trivial _ _ _ true rfl (by kernel_rfl) (by kernel_rfl)
                  intro W hW
                  first | refine hK _ _ ?_ | refine (‹∀ (a : Act) (w : World), Code.wp Try.prog _ _ a w → _›) _ _ ?_ | skip
                  simp only [finL, List.getD_cons_zero, List.getD_cons_succ, Nat.zero_add, Nat.reduceAdd, List.setIfInBounds_toArray, List.set_cons_zero, List.set_cons_succ]
                  go_wp2
                  go_ret
                  exact ho_no (by rw [HO]; unfold upbad; try simp only [h6_0]; try simp only [h6_1]; rfl) hW.tn
                | false =>
                  refine wp_region_any hmx ?_
                  refine zwp (fun i__ => ([(.pointer (some ⟨w.heap.size, 0, none⟩)), (.int .i64 4), (.bool true), (.bool true), (.pointer (some ⟨y, 2 + m * 6, none⟩)), (.pointer (some ⟨y, 2 + m * 6, none⟩)), (.pointer (some ⟨y, 2 + m * 6, none⟩)), (.bool true), (.bool false), (.bool false), (.pointer (some ⟨w.heap.size, 2, none⟩)), (.int .i64 li), (.pointer (some ⟨y, 2 + m * 6, none⟩)), (.pointer (some ⟨y, 2 + m * 6, none⟩)), (.pointer (some ⟨y, 2 + m * 6 + 1, none⟩)), (.int .i64 u.life), (.bool false), (.bool false), (.bool false)] : List Value).getD i__ undef) (fun V => JH w y w.heap.size n f D ⟨4, nd, li, ro, ta, of, du, he, un⟩ V) (by kernel_rfl) (hJ4.carry (Below.refl _ _).drew) ?_ ?_
                  · refine (sqc ?_ (sqc ?_ (sqc ?_ (sqc ?_ (sqc ?_ (sqc ?_ (sqc ?_ (sqc ?_ (sqc ?_ (sqc ?_ (sqc ?_ (sqc ?_ (sqc ?_ (sqc ?_ (sqc ?_ (sqc ?_ (sqc ?_ (sqc ?_ (sqc ?_ trivial)))))))))))))))))))
                    · exact zfa rfl trivial _ _ _ _ rfl rfl (fun w hw => faE0 w _ _)
                    · exact zld rfl trivial _ _ _ rfl rfl (fun w hw => load_in ((zca hw.bx 0).trans rfl))
                    · exact zbo rfl trivial _ _ _ _ _ _ _ rfl rfl rfl (fun w hw => bin_neq _ _ _)
                    · exact zmv rfl trivial _ rfl (by kernel_rfl)
                    · exact zmv rfl ⟨_, rfl, by kernel_rfl⟩ _ rfl (by kernel_rfl)
                    · exact znc rfl ⟨_, rfl, by kernel_rfl⟩ _ _ _ rfl rfl rfl
                    · exact zfa rfl ⟨_, rfl, by kernel_rfl⟩ _ _ _ _ rfl rfl (fun w hw => faM0 w _ _)
                    · exact zld rfl ⟨_, rfl, by kernel_rfl⟩ _ _ _ rfl rfl (fun w hw => by rw [← h6_0]; exact load_bo (hw.de.cn hm (j := 0) (by decide) rfl))
                    · exact step_unOp rfl ⟨_, rfl, by kernel_rfl⟩ _ _ _ _ rfl rfl (fun w hw => rfl)
                    · exact zmv rfl ⟨_, rfl, by kernel_rfl⟩ _ rfl (by kernel_rfl)
                    · exact zfa rfl ⟨_, rfl, by kernel_rfl⟩ _ _ _ _ rfl rfl (fun w hw => faE2 w _ _)
                    · exact zld rfl ⟨_, rfl, by kernel_rfl⟩ _ _ _ rfl rfl (fun w hw => load_in ((zca hw.bx 2).trans rfl))
                    · exact zmv rfl ⟨_, rfl, by kernel_rfl⟩ _ rfl (by kernel_rfl)
                    · exact znc rfl ⟨_, rfl, by kernel_rfl⟩ _ _ _ rfl rfl rfl
                    · exact zfa rfl ⟨_, rfl, by kernel_rfl⟩ _ _ _ _ rfl rfl (fun w hw => faM1 w _ _)
                    · exact zld rfl ⟨_, rfl, by kernel_rfl⟩ _ _ _ rfl rfl (fun w hw => load_in (hw.de.cn hm (j := 1) (by decide) rfl))
                    · exact zbo rfl ⟨_, rfl, by kernel_rfl⟩ _ _ _ _ _ _ _ rfl rfl rfl (fun w hw => by rw [← h6_1]; exact bin_neq _ _ _)
                    · exact step_pick rfl ⟨_, rfl, by kernel_rfl⟩ _ _ _ false rfl (by kernel_rfl) (by kernel_rfl)
                    · exact step_pick rfl trivial _ _ _ true rfl (by kernel_rfl) (by kernel_rfl)
                  intro W hW
                  first | refine hK _ _ ?_ | refine (‹∀ (a : Act) (w : World), Code.wp Try.prog _ _ a w → _›) _ _ ?_ | skip
                  simp only [finL, List.getD_cons_zero, List.getD_cons_succ, Nat.zero_add, Nat.reduceAdd, List.setIfInBounds_toArray, List.set_cons_zero, List.set_cons_succ]
                  obtain ⟨W6, rfl⟩ : ∃ V, V = W := ⟨_, rfl⟩
                  have hJ6 := hW
                  clear hW
                  have ck : W6.cell? ⟨w.heap.size, 0, none⟩ = some (.int .i64 4) := (zca hJ6.bx 0).trans rfl
                  have HO2 : hold n f D ⟨4, nd, li, ro, ta, of, du, he, un⟩ = dlw n f D ⟨4, nd, li, ro, ta, of, du, he, un⟩ m u := by rw [HO]; unfold upbad; try simp only [h6_0]; try simp only [h6_1]; rfl
                  go_wp2
                  cases h25_0 : decide (of < 0) with
                  | true =>
                    refine wp_region_any hmx ?_
                    refine zwp (fun i__ => ([(.pointer (some ⟨w.heap.size, 5, none⟩)), (.int .i64 of), (.bool true), (.bool true), undef, undef, undef, undef, undef, undef, undef, (.bool true), (.bool true), undef, undef, undef, undef, undef, undef, undef, undef, (.bool true), (.bool true), undef, undef, undef, undef, undef, undef, undef, (.bool true), (.bool true), undef, undef, undef, (.bool true), (.bool true), undef, undef, undef, (.bool true), (.bool true), undef, undef, undef, undef, undef, undef, undef, undef, (.bool true)] : List Value).getD i__ undef) (fun V => JH w y w.heap.size n f D ⟨4, nd, li, ro, ta, of, du, he, un⟩ V) (by kernel_rfl) (hJ6.carry (Below.refl _ _).drew) ?_ ?_
                    · refine (sqc ?_ (sqc ?_ (sqc ?_ (sqc ?_ (sqc ?_ (sqc ?_ (sqc ?_ (sqc ?_ (sqc ?_ (sqc ?_ (sqc ?_ (sqc ?_ (sqc ?_ (sqc ?_ (sqc ?_ (sqc ?_ (sqc ?_ (sqc ?_ (sqc ?_ (sqc ?_ (sqc ?_ (sqc ?_ (sqc ?_ (sqc ?_ (sqc ?_ (sqc ?_ (sqc ?_ (sqc ?_ (sqc ?_ (sqc ?_ (sqc ?_ (sqc ?_ (sqc ?_ (sqc ?_ (sqc ?_ (sqc ?_ (sqc ?_ (sqc ?_ (sqc ?_ (sqc ?_ (sqc ?_ (sqc ?_ (sqc ?_ (sqc ?_ (sqc ?_ (sqc ?_ (sqc ?_ (sqc ?_ (sqc ?_ (sqc ?_ (sqc ?_ trivial)))))))))))))))))))))))))))))))))))))))))))))))))))
                      · exact zfa rfl trivial _ _ _ _ rfl rfl (fun w hw => faE5 w _ _)
                      · exact zld rfl trivial _ _ _ rfl rfl (fun w hw => load_in ((zca hw.bx 5).trans rfl))
                      · exact zbo rfl trivial _ _ _ _ _ _ _ rfl rfl rfl (fun w hw => by rw [← h25_0]; exact bin_lss _ _ _)
                      · exact zmv rfl trivial _ rfl (by kernel_rfl)
                      · exact zsk rfl 3 false 309 (.bool true) rfl rfl (by kernel_rfl) (by intro h; cases h) rfl
                      · exact zsk rfl 3 false 309 (.bool true) rfl rfl (by kernel_rfl) (by intro h; cases h) rfl
                      · exact zsk rfl 3 false 309 (.bool true) rfl rfl (by kernel_rfl) (by intro h; cases h) rfl
                      · exact zsk rfl 3 false 309 (.bool true) rfl rfl (by kernel_rfl) (by intro h; cases h) rfl
                      · exact zsk rfl 3 false 309 (.bool true) rfl rfl (by kernel_rfl) (by intro h; cases h) rfl
                      · exact zsk rfl 3 false 309 (.bool true) rfl rfl (by kernel_rfl) (by intro h; cases h) rfl
                      · exact zsk rfl 3 false 309 (.bool true) rfl rfl (by kernel_rfl) (by intro h; cases h) rfl
                      · exact step_pick rfl trivial _ _ _ true rfl (by kernel_rfl) (by kernel_rfl)
                      · exact zmv rfl trivial _ rfl (by kernel_rfl)
                      · exact zsk rfl 12 false 318 (.bool true) rfl rfl (by kernel_rfl) (by intro h; cases h) rfl
                      · exact zsk rfl 12 false 318 (.bool true) rfl rfl (by kernel_rfl) (by intro h; cases h) rfl
                      · exact zsk rfl 12 false 318 (.bool true) rfl rfl (by kernel_rfl) (by intro h; cases h) rfl
                      · exact zsk rfl 12 false 318 (.bool true) rfl rfl (by kernel_rfl) (by intro h; cases h) rfl
                      · exact zsk rfl 12 false 318 (.bool true) rfl rfl (by kernel_rfl) (by intro h; cases h) rfl
                      · exact zsk rfl 12 false 318 (.bool true) rfl rfl (by kernel_rfl) (by intro h; cases h) rfl
                      · exact zsk rfl 12 false 318 (.bool true) rfl rfl (by kernel_rfl) (by intro h; cases h) rfl
                      · exact zsk rfl 12 false 318 (.bool true) rfl rfl (by kernel_rfl) (by intro h; cases h) rfl
                      · exact step_pick rfl trivial _ _ _ true rfl (by kernel_rfl) (by kernel_rfl)
                      · exact zmv rfl trivial _ rfl (by kernel_rfl)
                      · exact zsk rfl 22 false 328 (.bool true) rfl rfl (by kernel_rfl) (by intro h; cases h) rfl
                      · exact zsk rfl 22 false 328 (.bool true) rfl rfl (by kernel_rfl) (by intro h; cases h) rfl
                      · exact zsk rfl 22 false 328 (.bool true) rfl rfl (by kernel_rfl) (by intro h; cases h) rfl
                      · exact zsk rfl 22 false 328 (.bool true) rfl rfl (by kernel_rfl) (by intro h; cases h) rfl
                      · exact zsk rfl 22 false 328 (.bool true) rfl rfl (by kernel_rfl) (by intro h; cases h) rfl
                      · exact zsk rfl 22 false 328 (.bool true) rfl rfl (by kernel_rfl) (by intro h; cases h) rfl
                      · exact zsk rfl 22 false 328 (.bool true) rfl rfl (by kernel_rfl) (by intro h; cases h) rfl
                      · exact step_pick rfl trivial _ _ _ true rfl (by kernel_rfl) (by kernel_rfl)
                      · exact zmv rfl trivial _ rfl (by kernel_rfl)
                      · exact zsk rfl 31 false 337 (.bool true) rfl rfl (by kernel_rfl) (by intro h; cases h) rfl
                      · exact zsk rfl 31 false 337 (.bool true) rfl rfl (by kernel_rfl) (by intro h; cases h) rfl
                      · exact zsk rfl 31 false 337 (.bool true) rfl rfl (by kernel_rfl) (by intro h; cases h) rfl
                      · exact step_pick rfl trivial _ _ _ true rfl (by kernel_rfl) (by kernel_rfl)
                      · exact zmv rfl trivial _ rfl (by kernel_rfl)
                      · exact zsk rfl 36 false 342 (.bool true) rfl rfl (by kernel_rfl) (by intro h; cases h) rfl
                      · exact zsk rfl 36 false 342 (.bool true) rfl rfl (by kernel_rfl) (by intro h; cases h) rfl
                      · exact zsk rfl 36 false 342 (.bool true) rfl rfl (by kernel_rfl) (by intro h; cases h) rfl
                      · exact step_pick rfl trivial _ _ _ true rfl (by kernel_rfl) (by kernel_rfl)
                      · exact zmv rfl trivial _ rfl (by kernel_rfl)
                      · exact zsk rfl 41 false 347 (.bool true) rfl rfl (by kernel_rfl) (by intro h; cases h) rfl
                      · exact zsk rfl 41 false 347 (.bool true) rfl rfl (by kernel_rfl) (by intro h; cases h) rfl
                      · exact zsk rfl 41 false 347 (.bool true) rfl rfl (by kernel_rfl) (by intro h; cases h) rfl
                      · exact zsk rfl 41 false 347 (.bool true) rfl rfl (by kernel_rfl) (by intro h; cases h) rfl
                      · exact zsk rfl 41 false 347 (.bool true) rfl rfl (by kernel_rfl) (by intro h; cases h) rfl
                      · exact zsk rfl 41 false 347 (.bool true) rfl rfl (by kernel_rfl) (by intro h; cases h) rfl
                      · exact zsk rfl 41 false 347 (.bool true) rfl rfl (by kernel_rfl) (by intro h; cases h) rfl
                      · exact zsk rfl 41 false 347 (.bool true) rfl rfl (by kernel_rfl) (by intro h; cases h) rfl
                      · exact step_pick rfl trivial _ _ _ true rfl (by kernel_rfl) (by kernel_rfl)
                    intro W hW
                    first | refine hK _ _ ?_ | refine (‹∀ (a : Act) (w : World), Code.wp Try.prog _ _ a w → _›) _ _ ?_ | skip
                    simp only [finL, List.getD_cons_zero, List.getD_cons_succ, Nat.zero_add, Nat.reduceAdd, List.setIfInBounds_toArray, List.set_cons_zero, List.set_cons_succ]
                    go_wp2
                    go_ret
                    exact ho_no (by rw [HO2]; unfold dlw dl4; try simp only [h4_0]; try simp only [h25_0]; rfl) hW.tn
                  | false =>
                    cases h25_1 : decide (of ≥ n) with
                    | true =>
                      refine wp_region_any hmx ?_
                      refine zwp (fun i__ => ([(.pointer (some ⟨w.heap.size, 5, none⟩)), (.int .i64 of), (.bool false), (.bool false), (.pointer (some ⟨w.heap.size, 5, none⟩)), (.int .i64 of), (.pointer (some ⟨y, 0, none⟩)), (.pointer (some ⟨y, 0, none⟩)), (.pointer (some ⟨y, 0, none⟩)), (.int .i64 n), (.bool true), (.bool true), (.bool true), undef, undef, undef, undef, undef, undef, undef, undef, (.bool true), (.bool true), undef, undef, undef, undef, undef, undef, undef, (.bool true), (.bool true), undef, undef, undef, (.bool true), (.bool true), undef, undef, undef, (.bool true), (.bool true), undef, undef, undef, undef, undef, undef, undef, undef, (.bool true)] : List Value).getD i__ undef) (fun V => JH w y w.heap.size n f D ⟨4, nd, li, ro, ta, of, du, he, un⟩ V) (by kernel_rfl) (hJ6.carry (Below.refl _ _).drew) ?_ ?_
                      · refine (sqc ?_ (sqc ?_ (sqc ?_ (sqc ?_ (sqc ?_ (sqc ?_ (sqc ?_ (sqc ?_ (sqc ?_ (sqc ?_ (sqc ?_ (sqc ?_ (sqc ?_ (sqc ?_ (sqc ?_ (sqc ?_ (sqc ?_ (sqc ?_ (sqc ?_ (sqc ?_ (sqc ?_ (sqc ?_ (sqc ?_ (sqc ?_ (sqc ?_ (sqc ?_ (sqc ?_ (sqc ?_ (sqc ?_ (sqc ?_ (sqc ?_ (sqc ?_ (sqc ?_ (sqc ?_ (sqc ?_ (sqc ?_ (sqc ?_ (sqc ?_ (sqc ?_ (sqc ?_ (sqc ?_ (sqc ?_ (sqc ?_ (sqc ?_ (sqc ?_ (sqc ?_ (sqc ?_ (sqc ?_ (sqc ?_ (sqc ?_ (sqc ?_ trivial)))))))))))))))))))))))))))))))))))))))))))))))))))
                        · exact zfa rfl trivial _ _ _ _ rfl rfl (fun w hw => faE5 w _ _)
                        · exact zld rfl trivial _ _ _ rfl rfl (fun w hw => load_in ((zca hw.bx 5).trans rfl))
                        · exact zbo rfl trivial _ _ _ _ _ _ _ rfl rfl rfl (fun w hw => by rw [← h25_0]; exact bin_lss _ _ _)
                        · exact zmv rfl trivial _ rfl (by kernel_rfl)
                        · exact zfa rfl ⟨_, rfl, by kernel_rfl⟩ _ _ _ _ rfl rfl (fun w hw => faE5 w _ _)
                        · exact zld rfl ⟨_, rfl, by kernel_rfl⟩ _ _ _ rfl rfl (fun w hw => load_in ((zca hw.bx 5).trans rfl))
                        · exact zmv rfl ⟨_, rfl, by kernel_rfl⟩ _ rfl (by kernel_rfl)
                        · exact znc rfl ⟨_, rfl, by kernel_rfl⟩ _ _ _ rfl rfl rfl
                        · exact zfa rfl ⟨_, rfl, by kernel_rfl⟩ _ _ _ _ rfl rfl (fun w hw => faD0 w _ _)
                        · exact zld rfl ⟨_, rfl, by kernel_rfl⟩ _ _ _ rfl rfl (fun w hw => load_in hw.de.c0)
                        · exact zbo rfl ⟨_, rfl, by kernel_rfl⟩ _ _ _ _ _ _ _ rfl rfl rfl (fun w hw => by rw [← h25_1]; exact bin_geq _ _ _)
                        · exact step_pick rfl trivial _ _ _ false rfl (by kernel_rfl) (by kernel_rfl)
                        · exact zmv rfl trivial _ rfl (by kernel_rfl)
                        · exact zsk rfl 12 false 318 (.bool true) rfl rfl (by kernel_rfl) (by intro h; cases h) rfl
                        · exact zsk rfl 12 false 318 (.bool true) rfl rfl (by kernel_rfl) (by intro h; cases h) rfl
                        · exact zsk rfl 12 false 318 (.bool true) rfl rfl (by kernel_rfl) (by intro h; cases h) rfl
                        · exact zsk rfl 12 false 318 (.bool true) rfl rfl (by kernel_rfl) (by intro h; cases h) rfl
                        · exact zsk rfl 12 false 318 (.bool true) rfl rfl (by kernel_rfl) (by intro h; cases h) rfl
                        · exact zsk rfl 12 false 318 (.bool true) rfl rfl (by kernel_rfl) (by intro h; cases h) rfl
                        · exact zsk rfl 12 false 318 (.bool true) rfl rfl (by kernel_rfl) (by intro h; cases h) rfl
                        · exact zsk rfl 12 false 318 (.bool true) rfl rfl (by kernel_rfl) (by intro h; cases h) rfl
                        · exact step_pick rfl trivial _ _ _ true rfl (by kernel_rfl) (by kernel_rfl)
                        · exact zmv rfl trivial _ rfl (by kernel_rfl)
                        · exact zsk rfl 22 false 328 (.bool true) rfl rfl (by kernel_rfl) (by intro h; cases h) rfl
                        · exact zsk rfl 22 false 328 (.bool true) rfl rfl (by kernel_rfl) (by intro h; cases h) rfl
                        · exact zsk rfl 22 false 328 (.bool true) rfl rfl (by kernel_rfl) (by intro h; cases h) rfl
                        · exact zsk rfl 22 false 328 (.bool true) rfl rfl (by kernel_rfl) (by intro h; cases h) rfl
                        · exact zsk rfl 22 false 328 (.bool true) rfl rfl (by kernel_rfl) (by intro h; cases h) rfl
                        · exact zsk rfl 22 false 328 (.bool true) rfl rfl (by kernel_rfl) (by intro h; cases h) rfl
                        · exact zsk rfl 22 false 328 (.bool true) rfl rfl (by kernel_rfl) (by intro h; cases h) rfl
                        · exact step_pick rfl trivial _ _ _ true rfl (by kernel_rfl) (by kernel_rfl)
                        · exact zmv rfl trivial _ rfl (by kernel_rfl)
                        · exact zsk rfl 31 false 337 (.bool true) rfl rfl (by kernel_rfl) (by intro h; cases h) rfl
                        · exact zsk rfl 31 false 337 (.bool true) rfl rfl (by kernel_rfl) (by intro h; cases h) rfl
                        · exact zsk rfl 31 false 337 (.bool true) rfl rfl (by kernel_rfl) (by intro h; cases h) rfl
                        · exact step_pick rfl trivial _ _ _ true rfl (by kernel_rfl) (by kernel_rfl)
                        · exact zmv rfl trivial _ rfl (by kernel_rfl)
                        · exact zsk rfl 36 false 342 (.bool true) rfl rfl (by kernel_rfl) (by intro h; cases h) rfl
                        · exact zsk rfl 36 false 342 (.bool true) rfl rfl (by kernel_rfl) (by intro h; cases h) rfl
                        · exact zsk rfl 36 false 342 (.bool true) rfl rfl (by kernel_rfl) (by intro h; cases h) rfl
                        · exact step_pick rfl trivial _ _ _ true rfl (by kernel_rfl) (by kernel_rfl)
                        · exact zmv rfl trivial _ rfl (by kernel_rfl)
                        · exact zsk rfl 41 false 347 (.bool true) rfl rfl (by kernel_rfl) (by intro h; cases h) rfl
                        · exact zsk rfl 41 false 347 (.bool true) rfl rfl (by kernel_rfl) (by intro h; cases h) rfl
                        · exact zsk rfl 41 false 347 (.bool true) rfl rfl (by kernel_rfl) (by intro h; cases h) rfl
                        · exact zsk rfl 41 false 347 (.bool true) rfl rfl (by kernel_rfl) (by intro h; cases h) rfl
                        · exact zsk rfl 41 false 347 (.bool true) rfl rfl (by kernel_rfl) (by intro h; cases h) rfl
                        · exact zsk rfl 41 false 347 (.bool true) rfl rfl (by kernel_rfl) (by intro h; cases h) rfl
                        · exact zsk rfl 41 false 347 (.bool true) rfl rfl (by kernel_rfl) (by intro h; cases h) rfl
                        · exact zsk rfl 41 false 347 (.bool true) rfl rfl (by kernel_rfl) (by intro h; cases h) rfl
                        · exact step_pick rfl trivial _ _ _ true rfl (by kernel_rfl) (by kernel_rfl)
                      intro W hW
                      first | refine hK _ _ ?_ | refine (‹∀ (a : Act) (w : World), Code.wp Try.prog _ _ a w → _›) _ _ ?_ | skip
                      simp only [finL, List.getD_cons_zero, List.getD_cons_succ, Nat.zero_add, Nat.reduceAdd, List.setIfInBounds_toArray, List.set_cons_zero, List.set_cons_succ]
                      go_wp2
                      go_ret
                      exact ho_no (by rw [HO2]; unfold dlw dl4; try simp only [h4_0]; try simp only [h25_0]; try simp only [h25_1]; rfl) hW.tn
                    | false =>
                      cases h25_2 : hasB D.c.un of with
                      | true =>
                        refine wp_region_any hmx ?_
                        refine zwp (fun i__ => ([(.pointer (some ⟨w.heap.size, 5, none⟩)), (.int .i64 of), (.bool false), (.bool false), (.pointer (some ⟨w.heap.size, 5, none⟩)), (.int .i64 of), (.pointer (some ⟨y, 0, none⟩)), (.pointer (some ⟨y, 0, none⟩)), (.pointer (some ⟨y, 0, none⟩)), (.int .i64 n), (.bool false), (.bool false), (.bool false), (.pointer (some ⟨y, 0, none⟩)), (.pointer (some ⟨y, 0, none⟩)), (.pointer (some ⟨y, 603, none⟩)), (.pointer (some ⟨y, 614, none⟩)), (sv D.c.un), (.pointer (some ⟨w.heap.size, 5, none⟩)), (.int .i64 of), (.bool true), (.bool true), (.bool true), undef, undef, undef, undef, undef, undef, undef, (.bool true), (.bool true), undef, undef, undef, (.bool true), (.bool true), undef, undef, undef, (.bool true), (.bool true), undef, undef, undef, undef, undef, undef, undef, undef, (.bool true)] : List Value).getD i__ undef) (fun V => JH w y w.heap.size n f D ⟨4, nd, li, ro, ta, of, du, he, un⟩ V) (by kernel_rfl) (hJ6.carry (Below.refl _ _).drew) ?_ ?_
                        · refine (sqc ?_ (sqc ?_ (sqc ?_ (sqc ?_ (sqc ?_ (sqc ?_ (sqc ?_ (sqc ?_ (sqc ?_ (sqc ?_ (sqc ?_ (sqc ?_ (sqc ?_ (sqc ?_ (sqc ?_ (sqc ?_ (sqc ?_ (sqc ?_ (sqc ?_ (sqc ?_ (sqc ?_ (sqc ?_ (sqc ?_ (sqc ?_ (sqc ?_ (sqc ?_ (sqc ?_ (sqc ?_ (sqc ?_ (sqc ?_ (sqc ?_ (sqc ?_ (sqc ?_ (sqc ?_ (sqc ?_ (sqc ?_ (sqc ?_ (sqc ?_ (sqc ?_ (sqc ?_ (sqc ?_ (sqc ?_ (sqc ?_ (sqc ?_ (sqc ?_ (sqc ?_ (sqc ?_ (sqc ?_ (sqc ?_ (sqc ?_ (sqc ?_ trivial)))))))))))))))))))))))))))))))))))))))))))))))))))
                          · exact zfa rfl trivial _ _ _ _ rfl rfl (fun w hw => faE5 w _ _)
                          · exact zld rfl trivial _ _ _ rfl rfl (fun w hw => load_in ((zca hw.bx 5).trans rfl))
                          · exact zbo rfl trivial _ _ _ _ _ _ _ rfl rfl rfl (fun w hw => by rw [← h25_0]; exact bin_lss _ _ _)
                          · exact zmv rfl trivial _ rfl (by kernel_rfl)
                          · exact zfa rfl ⟨_, rfl, by kernel_rfl⟩ _ _ _ _ rfl rfl (fun w hw => faE5 w _ _)
                          · exact zld rfl ⟨_, rfl, by kernel_rfl⟩ _ _ _ rfl rfl (fun w hw => load_in ((zca hw.bx 5).trans rfl))
                          · exact zmv rfl ⟨_, rfl, by kernel_rfl⟩ _ rfl (by kernel_rfl)
                          · exact znc rfl ⟨_, rfl, by kernel_rfl⟩ _ _ _ rfl rfl rfl
                          · exact zfa rfl ⟨_, rfl, by kernel_rfl⟩ _ _ _ _ rfl rfl (fun w hw => faD0 w _ _)
                          · exact zld rfl ⟨_, rfl, by kernel_rfl⟩ _ _ _ rfl rfl (fun w hw => load_in hw.de.c0)
                          · exact zbo rfl ⟨_, rfl, by kernel_rfl⟩ _ _ _ _ _ _ _ rfl rfl rfl (fun w hw => by rw [← h25_1]; exact bin_geq _ _ _)
                          · exact step_pick rfl trivial _ _ _ false rfl (by kernel_rfl) (by kernel_rfl)
                          · exact zmv rfl trivial _ rfl (by kernel_rfl)
                          · exact zmv rfl ⟨_, rfl, by kernel_rfl⟩ _ rfl (by kernel_rfl)
                          · exact znc rfl ⟨_, rfl, by kernel_rfl⟩ _ _ _ rfl rfl rfl
                          · exact zfa rfl ⟨_, rfl, by kernel_rfl⟩ _ _ _ _ rfl rfl (fun w hw => faD4 w _ _)
                          · exact zfa rfl ⟨_, rfl, by kernel_rfl⟩ _ _ _ _ rfl rfl (fun w hw => faE8 w _ _)
                          · exact zld rfl ⟨_, rfl, by kernel_rfl⟩ _ _ _ rfl rfl (fun w hw => load_se (N := D.c.un) (hw.de.cc (j := 11) (by decide) rfl) (hw.de.cc (j := 12) (by decide) rfl) (hw.de.cc (j := 13) (by decide) rfl) (hw.de.cc (j := 14) (by decide) rfl))
                          · exact zfa rfl ⟨_, rfl, by kernel_rfl⟩ _ _ _ _ rfl rfl (fun w hw => faE5 w _ _)
                          · exact zld rfl ⟨_, rfl, by kernel_rfl⟩ _ _ _ rfl rfl (fun w hw => load_in ((zca hw.bx 5).trans rfl))
                          · exact zsc rfl ⟨_, rfl, by kernel_rfl⟩ 20 _ _ [(sv D.c.un), (.int .i64 of)] rfl (by kernel_rfl) (enters_of Try.func20 (by kernel_rfl) rfl) (fun w hw => (rHas_any (D.c.un) (of) w).mono (by rintro e w' ⟨rfl, hb⟩; exact ⟨congrArg (fun z => Ending.returned (Value.bool z)) h25_2, hw.carry hb⟩))
                          · exact step_pick rfl trivial _ _ _ false rfl (by kernel_rfl) (by kernel_rfl)
                          · exact zmv rfl trivial _ rfl (by kernel_rfl)
                          · exact zsk rfl 22 false 328 (.bool true) rfl rfl (by kernel_rfl) (by intro h; cases h) rfl
                          · exact zsk rfl 22 false 328 (.bool true) rfl rfl (by kernel_rfl) (by intro h; cases h) rfl
                          · exact zsk rfl 22 false 328 (.bool true) rfl rfl (by kernel_rfl) (by intro h; cases h) rfl
                          · exact zsk rfl 22 false 328 (.bool true) rfl rfl (by kernel_rfl) (by intro h; cases h) rfl
                          · exact zsk rfl 22 false 328 (.bool true) rfl rfl (by kernel_rfl) (by intro h; cases h) rfl
                          · exact zsk rfl 22 false 328 (.bool true) rfl rfl (by kernel_rfl) (by intro h; cases h) rfl
                          · exact zsk rfl 22 false 328 (.bool true) rfl rfl (by kernel_rfl) (by intro h; cases h) rfl
                          · exact step_pick rfl trivial _ _ _ true rfl (by kernel_rfl) (by kernel_rfl)
                          · exact zmv rfl trivial _ rfl (by kernel_rfl)
                          · exact zsk rfl 31 false 337 (.bool true) rfl rfl (by kernel_rfl) (by intro h; cases h) rfl
                          · exact zsk rfl 31 false 337 (.bool true) rfl rfl (by kernel_rfl) (by intro h; cases h) rfl
                          · exact zsk rfl 31 false 337 (.bool true) rfl rfl (by kernel_rfl) (by intro h; cases h) rfl
                          · exact step_pick rfl trivial _ _ _ true rfl (by kernel_rfl) (by kernel_rfl)
                          · exact zmv rfl trivial _ rfl (by kernel_rfl)
                          · exact zsk rfl 36 false 342 (.bool true) rfl rfl (by kernel_rfl) (by intro h; cases h) rfl
                          · exact zsk rfl 36 false 342 (.bool true) rfl rfl (by kernel_rfl) (by intro h; cases h) rfl
                          · exact zsk rfl 36 false 342 (.bool true) rfl rfl (by kernel_rfl) (by intro h; cases h) rfl
                          · exact step_pick rfl trivial _ _ _ true rfl (by kernel_rfl) (by kernel_rfl)
                          · exact zmv rfl trivial _ rfl (by kernel_rfl)
                          · exact zsk rfl 41 false 347 (.bool true) rfl rfl (by kernel_rfl) (by intro h; cases h) rfl
                          · exact zsk rfl 41 false 347 (.bool true) rfl rfl (by kernel_rfl) (by intro h; cases h) rfl
                          · exact zsk rfl 41 false 347 (.bool true) rfl rfl (by kernel_rfl) (by intro h; cases h) rfl
                          · exact zsk rfl 41 false 347 (.bool true) rfl rfl (by kernel_rfl) (by intro h; cases h) rfl
                          · exact zsk rfl 41 false 347 (.bool true) rfl rfl (by kernel_rfl) (by intro h; cases h) rfl
                          · exact zsk rfl 41 false 347 (.bool true) rfl rfl (by kernel_rfl) (by intro h; cases h) rfl
                          · exact zsk rfl 41 false 347 (.bool true) rfl rfl (by kernel_rfl) (by intro h; cases h) rfl
                          · exact zsk rfl 41 false 347 (.bool true) rfl rfl (by kernel_rfl) (by intro h; cases h) rfl
                          · exact step_pick rfl trivial _ _ _ true rfl (by kernel_rfl) (by kernel_rfl)
                        intro W hW
                        first | refine hK _ _ ?_ | refine (‹∀ (a : Act) (w : World), Code.wp Try.prog _ _ a w → _›) _ _ ?_ | skip
                        simp only [finL, List.getD_cons_zero, List.getD_cons_succ, Nat.zero_add, Nat.reduceAdd, List.setIfInBounds_toArray, List.set_cons_zero, List.set_cons_succ]
                        go_wp2
                        go_ret
                        exact ho_no (by rw [HO2]; unfold dlw dl4; try simp only [h4_0]; try simp only [h25_0]; try simp only [h25_1]; try simp only [h25_2]; rfl) hW.tn
                      | false =>
                        cases h25_3 : decide (of ≤ D.la) with
                        | true =>
                          refine wp_region_any hmx ?_
                          refine zwp (fun i__ => ([(.pointer (some ⟨w.heap.size, 5, none⟩)), (.int .i64 of), (.bool false), (.bool false), (.pointer (some ⟨w.heap.size, 5, none⟩)), (.int .i64 of), (.pointer (some ⟨y, 0, none⟩)), (.pointer (some ⟨y, 0, none⟩)), (.pointer (some ⟨y, 0, none⟩)), (.int .i64 n), (.bool false), (.bool false), (.bool false), (.pointer (some ⟨y, 0, none⟩)), (.pointer (some ⟨y, 0, none⟩)), (.pointer (some ⟨y, 603, none⟩)), (.pointer (some ⟨y, 614, none⟩)), (sv D.c.un), (.pointer (some ⟨w.heap.size, 5, none⟩)), (.int .i64 of), (.bool false), (.bool false), (.bool false), (.pointer (some ⟨w.heap.size, 5, none⟩)), (.int .i64 of), (.pointer (some ⟨y, 0, none⟩)), (.pointer (some ⟨y, 0, none⟩)), (.pointer (some ⟨y, 618, none⟩)), (.int .i64 D.la), (.bool true), (.bool true), (.bool true), undef, undef, undef, (.bool true), (.bool true), undef, undef, undef, (.bool true), (.bool true), undef, undef, undef, undef, undef, undef, undef, undef, (.bool true)] : List Value).getD i__ undef) (fun V => JH w y w.heap.size n f D ⟨4, nd, li, ro, ta, of, du, he, un⟩ V) (by kernel_rfl) (hJ6.carry (Below.refl _ _).drew) ?_ ?_
                          · refine (sqc ?_ (sqc ?_ (sqc ?_ (sqc ?_ (sqc ?_ (sqc ?_ (sqc ?_ (sqc ?_ (sqc ?_ (sqc ?_ (sqc ?_ (sqc ?_ (sqc ?_ (sqc ?_ (sqc ?_ (sqc ?_ (sqc ?_ (sqc ?_ (sqc ?_ (sqc ?_ (sqc ?_ (sqc ?_ (sqc ?_ (sqc ?_ (sqc ?_ (sqc ?_ (sqc ?_ (sqc ?_ (sqc ?_ (sqc ?_ (sqc ?_ (sqc ?_ (sqc ?_ (sqc ?_ (sqc ?_ (sqc ?_ (sqc ?_ (sqc ?_ (sqc ?_ (sqc ?_ (sqc ?_ (sqc ?_ (sqc ?_ (sqc ?_ (sqc ?_ (sqc ?_ (sqc ?_ (sqc ?_ (sqc ?_ (sqc ?_ (sqc ?_ trivial)))))))))))))))))))))))))))))))))))))))))))))))))))
                            · exact zfa rfl trivial _ _ _ _ rfl rfl (fun w hw => faE5 w _ _)
                            · exact zld rfl trivial _ _ _ rfl rfl (fun w hw => load_in ((zca hw.bx 5).trans rfl))
                            · exact zbo rfl trivial _ _ _ _ _ _ _ rfl rfl rfl (fun w hw => by rw [← h25_0]; exact bin_lss _ _ _)
                            · exact zmv rfl trivial _ rfl (by kernel_rfl)
                            · exact zfa rfl ⟨_, rfl, by kernel_rfl⟩ _ _ _ _ rfl rfl (fun w hw => faE5 w _ _)
                            · exact zld rfl ⟨_, rfl, by kernel_rfl⟩ _ _ _ rfl rfl (fun w hw => load_in ((zca hw.bx 5).trans rfl))
                            · exact zmv rfl ⟨_, rfl, by kernel_rfl⟩ _ rfl (by kernel_rfl)
                            · exact znc rfl ⟨_, rfl, by kernel_rfl⟩ _ _ _ rfl rfl rfl
                            · exact zfa rfl ⟨_, rfl, by kernel_rfl⟩ _ _ _ _ rfl rfl (fun w hw => faD0 w _ _)
                            · exact zld rfl ⟨_, rfl, by kernel_rfl⟩ _ _ _ rfl rfl (fun w hw => load_in hw.de.c0)
                            · exact zbo rfl ⟨_, rfl, by kernel_rfl⟩ _ _ _ _ _ _ _ rfl rfl rfl (fun w hw => by rw [← h25_1]; exact bin_geq _ _ _)
                            · exact step_pick rfl trivial _ _ _ false rfl (by kernel_rfl) (by kernel_rfl)
                            · exact zmv rfl trivial _ rfl (by kernel_rfl)
                            · exact zmv rfl ⟨_, rfl, by kernel_rfl⟩ _ rfl (by kernel_rfl)
                            · exact znc rfl ⟨_, rfl, by kernel_rfl⟩ _ _ _ rfl rfl rfl
                            · exact zfa rfl ⟨_, rfl, by kernel_rfl⟩ _ _ _ _ rfl rfl (fun w hw => faD4 w _ _)
                            · exact zfa rfl ⟨_, rfl, by kernel_rfl⟩ _ _ _ _ rfl rfl (fun w hw => faE8 w _ _)
                            · exact zld rfl ⟨_, rfl, by kernel_rfl⟩ _ _ _ rfl rfl (fun w hw => load_se (N := D.c.un) (hw.de.cc (j := 11) (by decide) rfl) (hw.de.cc (j := 12) (by decide) rfl) (hw.de.cc (j := 13) (by decide) rfl) (hw.de.cc (j := 14) (by decide) rfl))
                            · exact zfa rfl ⟨_, rfl, by kernel_rfl⟩ _ _ _ _ rfl rfl (fun w hw => faE5 w _ _)
                            · exact zld rfl ⟨_, rfl, by kernel_rfl⟩ _ _ _ rfl rfl (fun w hw => load_in ((zca hw.bx 5).trans rfl))
                            · exact zsc rfl ⟨_, rfl, by kernel_rfl⟩ 20 _ _ [(sv D.c.un), (.int .i64 of)] rfl (by kernel_rfl) (enters_of Try.func20 (by kernel_rfl) rfl) (fun w hw => (rHas_any (D.c.un) (of) w).mono (by rintro e w' ⟨rfl, hb⟩; exact ⟨congrArg (fun z => Ending.returned (Value.bool z)) h25_2, hw.carry hb⟩))
                            · exact step_pick rfl trivial _ _ _ false rfl (by kernel_rfl) (by kernel_rfl)
                            · exact zmv rfl trivial _ rfl (by kernel_rfl)
                            · exact zfa rfl ⟨_, rfl, by kernel_rfl⟩ _ _ _ _ rfl rfl (fun w hw => faE5 w _ _)
                            · exact zld rfl ⟨_, rfl, by kernel_rfl⟩ _ _ _ rfl rfl (fun w hw => load_in ((zca hw.bx 5).trans rfl))
                            · exact zmv rfl ⟨_, rfl, by kernel_rfl⟩ _ rfl (by kernel_rfl)
                            · exact znc rfl ⟨_, rfl, by kernel_rfl⟩ _ _ _ rfl rfl rfl
                            · exact zfa rfl ⟨_, rfl, by kernel_rfl⟩ _ _ _ _ rfl rfl (fun w hw => faD5 w _ _)
                            · exact zld rfl ⟨_, rfl, by kernel_rfl⟩ _ _ _ rfl rfl (fun w hw => load_in hw.de.cla)
                            · exact zbo rfl ⟨_, rfl, by kernel_rfl⟩ _ _ _ _ _ _ _ rfl rfl rfl (fun w hw => by rw [← h25_3]; exact bin_leq _ _ _)
                            · exact step_pick rfl trivial _ _ _ false rfl (by kernel_rfl) (by kernel_rfl)
                            · exact zmv rfl trivial _ rfl (by kernel_rfl)
                            · exact zsk rfl 31 false 337 (.bool true) rfl rfl (by kernel_rfl) (by intro h; cases h) rfl
                            · exact zsk rfl 31 false 337 (.bool true) rfl rfl (by kernel_rfl) (by intro h; cases h) rfl
                            · exact zsk rfl 31 false 337 (.bool true) rfl rfl (by kernel_rfl) (by intro h; cases h) rfl
                            · exact step_pick rfl trivial _ _ _ true rfl (by kernel_rfl) (by kernel_rfl)
                            · exact zmv rfl trivial _ rfl (by kernel_rfl)
                            · exact zsk rfl 36 false 342 (.bool true) rfl rfl (by kernel_rfl) (by intro h; cases h) rfl
                            · exact zsk rfl 36 false 342 (.bool true) rfl rfl (by kernel_rfl) (by intro h; cases h) rfl
                            · exact zsk rfl 36 false 342 (.bool true) rfl rfl (by kernel_rfl) (by intro h; cases h) rfl
                            · exact step_pick rfl trivial _ _ _ true rfl (by kernel_rfl) (by kernel_rfl)
                            · exact zmv rfl trivial _ rfl (by kernel_rfl)
                            · exact zsk rfl 41 false 347 (.bool true) rfl rfl (by kernel_rfl) (by intro h; cases h) rfl
                            · exact zsk rfl 41 false 347 (.bool true) rfl rfl (by kernel_rfl) (by intro h; cases h) rfl
                            · exact zsk rfl 41 false 347 (.bool true) rfl rfl (by kernel_rfl) (by intro h; cases h) rfl
                            · exact zsk rfl 41 false 347 (.bool true) rfl rfl (by kernel_rfl) (by intro h; cases h) rfl
                            · exact zsk rfl 41 false 347 (.bool true) rfl rfl (by kernel_rfl) (by intro h; cases h) rfl
                            · exact zsk rfl 41 false 347 (.bool true) rfl rfl (by kernel_rfl) (by intro h; cases h) rfl
                            · exact zsk rfl 41 false 347 (.bool true) rfl rfl (by kernel_rfl) (by intro h; cases h) rfl
                            · exact zsk rfl 41 false 347 (.bool true) rfl rfl (by kernel_rfl) (by intro h; cases h) rfl
                            · exact step_pick rfl trivial _ _ _ true rfl (by kernel_rfl) (by kernel_rfl)
                          intro W hW
                          first | refine hK _ _ ?_ | refine (‹∀ (a : Act) (w : World), Code.wp Try.prog _ _ a w → _›) _ _ ?_ | skip
                          simp only [finL, List.getD_cons_zero, List.getD_cons_succ, Nat.zero_add, Nat.reduceAdd, List.setIfInBounds_toArray, List.set_cons_zero, List.set_cons_succ]
                          go_wp2
                          go_ret
                          exact ho_no (by rw [HO2]; unfold dlw dl4; try simp only [h4_0]; try simp only [h25_0]; try simp only [h25_1]; try simp only [h25_2]; try simp only [h25_3]; rfl) hW.tn
                        | false =>
                          cases h25_4 : decide (ta < 0) with
                          | true =>
                            refine wp_region_any hmx ?_
                            refine zwp (fun i__ => ([(.pointer (some ⟨w.heap.size, 5, none⟩)), (.int .i64 of), (.bool false), (.bool false), (.pointer (some ⟨w.heap.size, 5, none⟩)), (.int .i64 of), (.pointer (some ⟨y, 0, none⟩)), (.pointer (some ⟨y, 0, none⟩)), (.pointer (some ⟨y, 0, none⟩)), (.int .i64 n), (.bool false), (.bool false), (.bool false), (.pointer (some ⟨y, 0, none⟩)), (.pointer (some ⟨y, 0, none⟩)), (.pointer (some ⟨y, 603, none⟩)), (.pointer (some ⟨y, 614, none⟩)), (sv D.c.un), (.pointer (some ⟨w.heap.size, 5, none⟩)), (.int .i64 of), (.bool false), (.bool false), (.bool false), (.pointer (some ⟨w.heap.size, 5, none⟩)), (.int .i64 of), (.pointer (some ⟨y, 0, none⟩)), (.pointer (some ⟨y, 0, none⟩)), (.pointer (some ⟨y, 618, none⟩)), (.int .i64 D.la), (.bool false), (.bool false), (.bool false), (.pointer (some ⟨w.heap.size, 4, none⟩)), (.int .i64 ta), (.bool true), (.bool true), (.bool true), undef, undef, undef, (.bool true), (.bool true), undef, undef, undef, undef, undef, undef, undef, undef, (.bool true)] : List Value).getD i__ undef) (fun V => JH w y w.heap.size n f D ⟨4, nd, li, ro, ta, of, du, he, un⟩ V) (by kernel_rfl) (hJ6.carry (Below.refl _ _).drew) ?_ ?_
                            · refine (sqc ?_ (sqc ?_ (sqc ?_ (sqc ?_ (sqc ?_ (sqc ?_ (sqc ?_ (sqc ?_ (sqc ?_ (sqc ?_ (sqc ?_ (sqc ?_ (sqc ?_ (sqc ?_ (sqc ?_ (sqc ?_ (sqc ?_ (sqc ?_ (sqc ?_ (sqc ?_ (sqc ?_ (sqc ?_ (sqc ?_ (sqc ?_ (sqc ?_ (sqc ?_ (sqc ?_ (sqc ?_ (sqc ?_ (sqc ?_ (sqc ?_ (sqc ?_ (sqc ?_ (sqc ?_ (sqc ?_ (sqc ?_ (sqc ?_ (sqc ?_ (sqc ?_ (sqc ?_ (sqc ?_ (sqc ?_ (sqc ?_ (sqc ?_ (sqc ?_ (sqc ?_ (sqc ?_ (sqc ?_ (sqc ?_ (sqc ?_ (sqc ?_ trivial)))))))))))))))))))))))))))))))))))))))))))))))))))
                              · exact zfa rfl trivial _ _ _ _ rfl rfl (fun w hw => faE5 w _ _)
                              · exact zld rfl trivial _ _ _ rfl rfl (fun w hw => load_in ((zca hw.bx 5).trans rfl))
                              · exact zbo rfl trivial _ _ _ _ _ _ _ rfl rfl rfl (fun w hw => by rw [← h25_0]; exact bin_lss _ _ _)
                              · exact zmv rfl trivial _ rfl (by kernel_rfl)
                              · exact zfa rfl ⟨_, rfl, by kernel_rfl⟩ _ _ _ _ rfl rfl (fun w hw => faE5 w _ _)
                              · exact zld rfl ⟨_, rfl, by kernel_rfl⟩ _ _ _ rfl rfl (fun w hw => load_in ((zca hw.bx 5).trans rfl))
                              · exact zmv rfl ⟨_, rfl, by kernel_rfl⟩ _ rfl (by kernel_rfl)
                              · exact znc rfl ⟨_, rfl, by kernel_rfl⟩ _ _ _ rfl rfl rfl
                              · exact zfa rfl ⟨_, rfl, by kernel_rfl⟩ _ _ _ _ rfl rfl (fun w hw => faD0 w _ _)
                              · exact zld rfl ⟨_, rfl, by kernel_rfl⟩ _ _ _ rfl rfl (fun w hw => load_in hw.de.c0)
                              · exact zbo rfl ⟨_, rfl, by kernel_rfl⟩ _ _ _ _ _ _ _ rfl rfl rfl (fun w hw => by rw [← h25_1]; exact bin_geq _ _ _)
                              · exact step_pick rfl trivial _ _ _ false rfl (by kernel_rfl) (by kernel_rfl)
                              · exact zmv rfl trivial _ rfl (by kernel_rfl)
                              · exact zmv rfl ⟨_, rfl, by kernel_rfl⟩ _ rfl (by kernel_rfl)
                              · exact znc rfl ⟨_, rfl, by kernel_rfl⟩ _ _ _ rfl rfl rfl
                              · exact zfa rfl ⟨_, rfl, by kernel_rfl⟩ _ _ _ _ rfl rfl (fun w hw => faD4 w _ _)
                              · exact zfa rfl ⟨_, rfl, by kernel_rfl⟩ _ _ _ _ rfl rfl (fun w hw => faE8 w _ _)
                              · exact zld rfl ⟨_, rfl, by kernel_rfl⟩ _ _ _ rfl rfl (fun w hw => load_se (N := D.c.un) (hw.de.cc (j := 11) (by decide) rfl) (hw.de.cc (j := 12) (by decide) rfl) (hw.de.cc (j := 13) (by decide) rfl) (hw.de.cc (j := 14) (by decide) rfl))
                              · exact zfa rfl ⟨_, rfl, by kernel_rfl⟩ _ _ _ _ rfl rfl (fun w hw => faE5 w _ _)
                              · exact zld rfl ⟨_, rfl, by kernel_rfl⟩ _ _ _ rfl rfl (fun w hw => load_in ((zca hw.bx 5).trans rfl))
                              · exact zsc rfl ⟨_, rfl, by kernel_rfl⟩ 20 _ _ [(sv D.c.un), (.int .i64 of)] rfl (by kernel_rfl) (enters_of Try.func20 (by kernel_rfl) rfl) (fun w hw => (rHas_any (D.c.un) (of) w).mono (by rintro e w' ⟨rfl, hb⟩; exact ⟨congrArg (fun z => Ending.returned (Value.bool z)) h25_2, hw.carry hb⟩))
                              · exact step_pick rfl trivial _ _ _ false rfl (by kernel_rfl) (by kernel_rfl)
                              · exact zmv rfl trivial _ rfl (by kernel_rfl)
                              · exact zfa rfl ⟨_, rfl, by kernel_rfl⟩ _ _ _ _ rfl rfl (fun w hw => faE5 w _ _)
                              · exact zld rfl ⟨_, rfl, by kernel_rfl⟩ _ _ _ rfl rfl (fun w hw => load_in ((zca hw.bx 5).trans rfl))
                              · exact zmv rfl ⟨_, rfl, by kernel_rfl⟩ _ rfl (by kernel_rfl)
                              · exact znc rfl ⟨_, rfl, by kernel_rfl⟩ _ _ _ rfl rfl rfl
                              · exact zfa rfl ⟨_, rfl, by kernel_rfl⟩ _ _ _ _ rfl rfl (fun w hw => faD5 w _ _)
                              · exact zld rfl ⟨_, rfl, by kernel_rfl⟩ _ _ _ rfl rfl (fun w hw => load_in hw.de.cla)
                              · exact zbo rfl ⟨_, rfl, by kernel_rfl⟩ _ _ _ _ _ _ _ rfl rfl rfl (fun w hw => by rw [← h25_3]; exact bin_leq _ _ _)
                              · exact step_pick rfl trivial _ _ _ false rfl (by kernel_rfl) (by kernel_rfl)
                              · exact zmv rfl trivial _ rfl (by kernel_rfl)
                              · exact zfa rfl ⟨_, rfl, by kernel_rfl⟩ _ _ _ _ rfl rfl (fun w hw => faE4 w _ _)
                              · exact zld rfl ⟨_, rfl, by kernel_rfl⟩ _ _ _ rfl rfl (fun w hw => load_in ((zca hw.bx 4).trans rfl))
                              · exact zbo rfl ⟨_, rfl, by kernel_rfl⟩ _ _ _ _ _ _ _ rfl rfl rfl (fun w hw => by rw [← h25_4]; exact bin_lss _ _ _)
                              · exact step_pick rfl trivial _ _ _ false rfl (by kernel_rfl) (by kernel_rfl)
                              · exact zmv rfl trivial _ rfl (by kernel_rfl)
                              · exact zsk rfl 36 false 342 (.bool true) rfl rfl (by kernel_rfl) (by intro h; cases h) rfl
                              · exact zsk rfl 36 false 342 (.bool true) rfl rfl (by kernel_rfl) (by intro h; cases h) rfl
                              · exact zsk rfl 36 false 342 (.bool true) rfl rfl (by kernel_rfl) (by intro h; cases h) rfl
                              · exact step_pick rfl trivial _ _ _ true rfl (by kernel_rfl) (by kernel_rfl)
                              · exact zmv rfl trivial _ rfl (by kernel_rfl)
                              · exact zsk rfl 41 false 347 (.bool true) rfl rfl (by kernel_rfl) (by intro h; cases h) rfl
                              · exact zsk rfl 41 false 347 (.bool true) rfl rfl (by kernel_rfl) (by intro h; cases h) rfl
                              · exact zsk rfl 41 false 347 (.bool true) rfl rfl (by kernel_rfl) (by intro h; cases h) rfl
                              · exact zsk rfl 41 false 347 (.bool true) rfl rfl (by kernel_rfl) (by intro h; cases h) rfl
                              · exact zsk rfl 41 false 347 (.bool true) rfl rfl (by kernel_rfl) (by intro h; cases h) rfl
                              · exact zsk rfl 41 false 347 (.bool true) rfl rfl (by kernel_rfl) (by intro h; cases h) rfl
                              · exact zsk rfl 41 false 347 (.bool true) rfl rfl (by kernel_rfl) (by intro h; cases h) rfl
                              · exact zsk rfl 41 false 347 (.bool true) rfl rfl (by kernel_rfl) (by intro h; cases h) rfl
                              · exact step_pick rfl trivial _ _ _ true rfl (by kernel_rfl) (by kernel_rfl)
                            intro W hW
                            first | refine hK _ _ ?_ | refine (‹∀ (a : Act) (w : World), Code.wp Try.prog _ _ a w → _›) _ _ ?_ | skip
                            simp only [finL, List.getD_cons_zero, List.getD_cons_succ, Nat.zero_add, Nat.reduceAdd, List.setIfInBounds_toArray, List.set_cons_zero, List.set_cons_succ]
                            go_wp2
                            go_ret
                            exact ho_no (by rw [HO2]; unfold dlw dl4; try simp only [h4_0]; try simp only [h25_0]; try simp only [h25_1]; try simp only [h25_2]; try simp only [h25_3]; try simp only [h25_4]; rfl) hW.tn
                          | false =>
                            cases h25_5 : decide (ta > 1048576) with
                            | true =>
                              refine wp_region_any hmx ?_
                              refine zwp (fun i__ => ([(.pointer (some ⟨w.heap.size, 5, none⟩)), (.int .i64 of), (.bool false), (.bool false), (.pointer (some ⟨w.heap.size, 5, none⟩)), (.int .i64 of), (.pointer (some ⟨y, 0, none⟩)), (.pointer (some ⟨y, 0, none⟩)), (.pointer (some ⟨y, 0, none⟩)), (.int .i64 n), (.bool false), (.bool false), (.bool false), (.pointer (some ⟨y, 0, none⟩)), (.pointer (some ⟨y, 0, none⟩)), (.pointer (some ⟨y, 603, none⟩)), (.pointer (some ⟨y, 614, none⟩)), (sv D.c.un), (.pointer (some ⟨w.heap.size, 5, none⟩)), (.int .i64 of), (.bool false), (.bool false), (.bool false), (.pointer (some ⟨w.heap.size, 5, none⟩)), (.int .i64 of), (.pointer (some ⟨y, 0, none⟩)), (.pointer (some ⟨y, 0, none⟩)), (.pointer (some ⟨y, 618, none⟩)), (.int .i64 D.la), (.bool false), (.bool false), (.bool false), (.pointer (some ⟨w.heap.size, 4, none⟩)), (.int .i64 ta), (.bool false), (.bool false), (.bool false), (.pointer (some ⟨w.heap.size, 4, none⟩)), (.int .i64 ta), (.bool true), (.bool true), (.bool true), undef, undef, undef, undef, undef, undef, undef, undef, (.bool true)] : List Value).getD i__ undef) (fun V => JH w y w.heap.size n f D ⟨4, nd, li, ro, ta, of, du, he, un⟩ V) (by kernel_rfl) (hJ6.carry (Below.refl _ _).drew) ?_ ?_
                              · refine (sqc ?_ (sqc ?_ (sqc ?_ (sqc ?_ (sqc ?_ (sqc ?_ (sqc ?_ (sqc ?_ (sqc ?_ (sqc ?_ (sqc ?_ (sqc ?_ (sqc ?_ (sqc ?_ (sqc ?_ (sqc ?_ (sqc ?_ (sqc ?_ (sqc ?_ (sqc ?_ (sqc ?_ (sqc ?_ (sqc ?_ (sqc ?_ (sqc ?_ (sqc ?_ (sqc ?_ (sqc ?_ (sqc ?_ (sqc ?_ (sqc ?_ (sqc ?_ (sqc ?_ (sqc ?_ (sqc ?_ (sqc ?_ (sqc ?_ (sqc ?_ (sqc ?_ (sqc ?_ (sqc ?_ (sqc ?_ (sqc ?_ (sqc ?_ (sqc ?_ (sqc ?_ (sqc ?_ (sqc ?_ (sqc ?_ (sqc ?_ (sqc ?_ trivial)))))))))))))))))))))))))))))))))))))))))))))))))))
                                · exact zfa rfl trivial _ _ _ _ rfl rfl (fun w hw => faE5 w _ _)
                                · exact zld rfl trivial _ _ _ rfl rfl (fun w hw => load_in ((zca hw.bx 5).trans rfl))
                                · exact zbo rfl trivial _ _ _ _ _ _ _ rfl rfl rfl (fun w hw => by rw [← h25_0]; exact bin_lss _ _ _)
                                · exact zmv rfl trivial _ rfl (by kernel_rfl)
                                · exact zfa rfl ⟨_, rfl, by kernel_rfl⟩ _ _ _ _ rfl rfl (fun w hw => faE5 w _ _)
                                · exact zld rfl ⟨_, rfl, by kernel_rfl⟩ _ _ _ rfl rfl (fun w hw => load_in ((zca hw.bx 5).trans rfl))
                                · exact zmv rfl ⟨_, rfl, by kernel_rfl⟩ _ rfl (by kernel_rfl)
                                · exact znc rfl ⟨_, rfl, by kernel_rfl⟩ _ _ _ rfl rfl rfl
                                · exact zfa rfl ⟨_, rfl, by kernel_rfl⟩ _ _ _ _ rfl rfl (fun w hw => faD0 w _ _)
                                · exact zld rfl ⟨_, rfl, by kernel_rfl⟩ _ _ _ rfl rfl (fun w hw => load_in hw.de.c0)
                                · exact zbo rfl ⟨_, rfl, by kernel_rfl⟩ _ _ _ _ _ _ _ rfl rfl rfl (fun w hw => by rw [← h25_1]; exact bin_geq _ _ _)
                                · exact step_pick rfl trivial _ _ _ false rfl (by kernel_rfl) (by kernel_rfl)
                                · exact zmv rfl trivial _ rfl (by kernel_rfl)
                                · exact zmv rfl ⟨_, rfl, by kernel_rfl⟩ _ rfl (by kernel_rfl)
                                · exact znc rfl ⟨_, rfl, by kernel_rfl⟩ _ _ _ rfl rfl rfl
                                · exact zfa rfl ⟨_, rfl, by kernel_rfl⟩ _ _ _ _ rfl rfl (fun w hw => faD4 w _ _)
                                · exact zfa rfl ⟨_, rfl, by kernel_rfl⟩ _ _ _ _ rfl rfl (fun w hw => faE8 w _ _)
                                · exact zld rfl ⟨_, rfl, by kernel_rfl⟩ _ _ _ rfl rfl (fun w hw => load_se (N := D.c.un) (hw.de.cc (j := 11) (by decide) rfl) (hw.de.cc (j := 12) (by decide) rfl) (hw.de.cc (j := 13) (by decide) rfl) (hw.de.cc (j := 14) (by decide) rfl))
                                · exact zfa rfl ⟨_, rfl, by kernel_rfl⟩ _ _ _ _ rfl rfl (fun w hw => faE5 w _ _)
                                · exact zld rfl ⟨_, rfl, by kernel_rfl⟩ _ _ _ rfl rfl (fun w hw => load_in ((zca hw.bx 5).trans rfl))
                                · exact zsc rfl ⟨_, rfl, by kernel_rfl⟩ 20 _ _ [(sv D.c.un), (.int .i64 of)] rfl (by kernel_rfl) (enters_of Try.func20 (by kernel_rfl) rfl) (fun w hw => (rHas_any (D.c.un) (of) w).mono (by rintro e w' ⟨rfl, hb⟩; exact ⟨congrArg (fun z => Ending.returned (Value.bool z)) h25_2, hw.carry hb⟩))
                                · exact step_pick rfl trivial _ _ _ false rfl (by kernel_rfl) (by kernel_rfl)
                                · exact zmv rfl trivial _ rfl (by kernel_rfl)
                                · exact zfa rfl ⟨_, rfl, by kernel_rfl⟩ _ _ _ _ rfl rfl (fun w hw => faE5 w _ _)
                                · exact zld rfl ⟨_, rfl, by kernel_rfl⟩ _ _ _ rfl rfl (fun w hw => load_in ((zca hw.bx 5).trans rfl))
                                · exact zmv rfl ⟨_, rfl, by kernel_rfl⟩ _ rfl (by kernel_rfl)
                                · exact znc rfl ⟨_, rfl, by kernel_rfl⟩ _ _ _ rfl rfl rfl
                                · exact zfa rfl ⟨_, rfl, by kernel_rfl⟩ _ _ _ _ rfl rfl (fun w hw => faD5 w _ _)
                                · exact zld rfl ⟨_, rfl, by kernel_rfl⟩ _ _ _ rfl rfl (fun w hw => load_in hw.de.cla)
                                · exact zbo rfl ⟨_, rfl, by kernel_rfl⟩ _ _ _ _ _ _ _ rfl rfl rfl (fun w hw => by rw [← h25_3]; exact bin_leq _ _ _)
                                · exact step_pick rfl trivial _ _ _ false rfl (by kernel_rfl) (by kernel_rfl)
                                · exact zmv rfl trivial _ rfl (by kernel_rfl)
                                · exact zfa rfl ⟨_, rfl, by kernel_rfl⟩ _ _ _ _ rfl rfl (fun w hw => faE4 w _ _)
                                · exact zld rfl ⟨_, rfl, by kernel_rfl⟩ _ _ _ rfl rfl (fun w hw => load_in ((zca hw.bx 4).trans rfl))
                                · exact zbo rfl ⟨_, rfl, by kernel_rfl⟩ _ _ _ _ _ _ _ rfl rfl rfl (fun w hw => by rw [← h25_4]; exact bin_lss _ _ _)
                                · exact step_pick rfl trivial _ _ _ false rfl (by kernel_rfl) (by kernel_rfl)
                                · exact zmv rfl trivial _ rfl (by kernel_rfl)
                                · exact zfa rfl ⟨_, rfl, by kernel_rfl⟩ _ _ _ _ rfl rfl (fun w hw => faE4 w _ _)
                                · exact zld rfl ⟨_, rfl, by kernel_rfl⟩ _ _ _ rfl rfl (fun w hw => load_in ((zca hw.bx 4).trans rfl))
                                · exact zbo rfl ⟨_, rfl, by kernel_rfl⟩ _ _ _ _ _ _ _ rfl rfl rfl (fun w hw => by rw [← h25_5]; exact bin_gtr _ _ _)
                                · exact step_pick rfl trivial _ _ _ false rfl (by kernel_rfl) (by kernel_rfl)
                                · exact zmv rfl trivial _ rfl (by kernel_rfl)
                                · exact zsk rfl 41 false 347 (.bool true) rfl rfl (by kernel_rfl) (by intro h; cases h) rfl
                                · exact zsk rfl 41 false 347 (.bool true) rfl rfl (by kernel_rfl) (by intro h; cases h) rfl
                                · exact zsk rfl 41 false 347 (.bool true) rfl rfl (by kernel_rfl) (by intro h; cases h) rfl
                                · exact zsk rfl 41 false 347 (.bool true) rfl rfl (by kernel_rfl) (by intro h; cases h) rfl
                                · exact zsk rfl 41 false 347 (.bool true) rfl rfl (by kernel_rfl) (by intro h; cases h) rfl
                                · exact zsk rfl 41 false 347 (.bool true) rfl rfl (by kernel_rfl) (by intro h; cases h) rfl
                                · exact zsk rfl 41 false 347 (.bool true) rfl rfl (by kernel_rfl) (by intro h; cases h) rfl
                                · exact zsk rfl 41 false 347 (.bool true) rfl rfl (by kernel_rfl) (by intro h; cases h) rfl
                                · exact step_pick rfl trivial _ _ _ true rfl (by kernel_rfl) (by kernel_rfl)
                              intro W hW
                              first | refine hK _ _ ?_ | refine (‹∀ (a : Act) (w : World), Code.wp Try.prog _ _ a w → _›) _ _ ?_ | skip
                              simp only [finL, List.getD_cons_zero, List.getD_cons_succ, Nat.zero_add, Nat.reduceAdd, List.setIfInBounds_toArray, List.set_cons_zero, List.set_cons_succ]
                              go_wp2
                              go_ret
                              exact ho_no (by rw [HO2]; unfold dlw dl4; try simp only [h4_0]; try simp only [h25_0]; try simp only [h25_1]; try simp only [h25_2]; try simp only [h25_3]; try simp only [h25_4]; try simp only [h25_5]; rfl) hW.tn
                            | false =>
                              cases h25_6 : (ro != D.c.ro) with
                              | true =>
                                refine wp_region_any hmx ?_
                                refine zwp (fun i__ => ([(.pointer (some ⟨w.heap.size, 5, none⟩)), (.int .i64 of), (.bool false), (.bool false), (.pointer (some ⟨w.heap.size, 5, none⟩)), (.int .i64 of), (.pointer (some ⟨y, 0, none⟩)), (.pointer (some ⟨y, 0, none⟩)), (.pointer (some ⟨y, 0, none⟩)), (.int .i64 n), (.bool false), (.bool false), (.bool false), (.pointer (some ⟨y, 0, none⟩)), (.pointer (some ⟨y, 0, none⟩)), (.pointer (some ⟨y, 603, none⟩)), (.pointer (some ⟨y, 614, none⟩)), (sv D.c.un), (.pointer (some ⟨w.heap.size, 5, none⟩)), (.int .i64 of), (.bool false), (.bool false), (.bool false), (.pointer (some ⟨w.heap.size, 5, none⟩)), (.int .i64 of), (.pointer (some ⟨y, 0, none⟩)), (.pointer (some ⟨y, 0, none⟩)), (.pointer (some ⟨y, 618, none⟩)), (.int .i64 D.la), (.bool false), (.bool false), (.bool false), (.pointer (some ⟨w.heap.size, 4, none⟩)), (.int .i64 ta), (.bool false), (.bool false), (.bool false), (.pointer (some ⟨w.heap.size, 4, none⟩)), (.int .i64 ta), (.bool false), (.bool false), (.bool false), (.pointer (some ⟨w.heap.size, 3, none⟩)), (.int .i64 ro), (.pointer (some ⟨y, 0, none⟩)), (.pointer (some ⟨y, 0, none⟩)), (.pointer (some ⟨y, 603, none⟩)), (.pointer (some ⟨y, 606, none⟩)), (.int .i64 D.c.ro), (.bool true), (.bool true)] : List Value).getD i__ undef) (fun V => JH w y w.heap.size n f D ⟨4, nd, li, ro, ta, of, du, he, un⟩ V) (by kernel_rfl) (hJ6.carry (Below.refl _ _).drew) ?_ ?_
                                · refine (sqc ?_ (sqc ?_ (sqc ?_ (sqc ?_ (sqc ?_ (sqc ?_ (sqc ?_ (sqc ?_ (sqc ?_ (sqc ?_ (sqc ?_ (sqc ?_ (sqc ?_ (sqc ?_ (sqc ?_ (sqc ?_ (sqc ?_ (sqc ?_ (sqc ?_ (sqc ?_ (sqc ?_ (sqc ?_ (sqc ?_ (sqc ?_ (sqc ?_ (sqc ?_ (sqc ?_ (sqc ?_ (sqc ?_ (sqc ?_ (sqc ?_ (sqc ?_ (sqc ?_ (sqc ?_ (sqc ?_ (sqc ?_ (sqc ?_ (sqc ?_ (sqc ?_ (sqc ?_ (sqc ?_ (sqc ?_ (sqc ?_ (sqc ?_ (sqc ?_ (sqc ?_ (sqc ?_ (sqc ?_ (sqc ?_ (sqc ?_ (sqc ?_ trivial)))))))))))))))))))))))))))))))))))))))))))))))))))
                                  · exact zfa rfl trivial _ _ _ _ rfl rfl (fun w hw => faE5 w _ _)
                                  · exact zld rfl trivial _ _ _ rfl rfl (fun w hw => load_in ((zca hw.bx 5).trans rfl))
                                  · exact zbo rfl trivial _ _ _ _ _ _ _ rfl rfl rfl (fun w hw => by rw [← h25_0]; exact bin_lss _ _ _)
                                  · exact zmv rfl trivial _ rfl (by kernel_rfl)
                                  · exact zfa rfl ⟨_, rfl, by kernel_rfl⟩ _ _ _ _ rfl rfl (fun w hw => faE5 w _ _)
                                  · exact zld rfl ⟨_, rfl, by kernel_rfl⟩ _ _ _ rfl rfl (fun w hw => load_in ((zca hw.bx 5).trans rfl))
                                  · exact zmv rfl ⟨_, rfl, by kernel_rfl⟩ _ rfl (by kernel_rfl)
                                  · exact znc rfl ⟨_, rfl, by kernel_rfl⟩ _ _ _ rfl rfl rfl
                                  · exact zfa rfl ⟨_, rfl, by kernel_rfl⟩ _ _ _ _ rfl rfl (fun w hw => faD0 w _ _)
                                  · exact zld rfl ⟨_, rfl, by kernel_rfl⟩ _ _ _ rfl rfl (fun w hw => load_in hw.de.c0)
                                  · exact zbo rfl ⟨_, rfl, by kernel_rfl⟩ _ _ _ _ _ _ _ rfl rfl rfl (fun w hw => by rw [← h25_1]; exact bin_geq _ _ _)
                                  · exact step_pick rfl trivial _ _ _ false rfl (by kernel_rfl) (by kernel_rfl)
                                  · exact zmv rfl trivial _ rfl (by kernel_rfl)
                                  · exact zmv rfl ⟨_, rfl, by kernel_rfl⟩ _ rfl (by kernel_rfl)
                                  · exact znc rfl ⟨_, rfl, by kernel_rfl⟩ _ _ _ rfl rfl rfl
                                  · exact zfa rfl ⟨_, rfl, by kernel_rfl⟩ _ _ _ _ rfl rfl (fun w hw => faD4 w _ _)
                                  · exact zfa rfl ⟨_, rfl, by kernel_rfl⟩ _ _ _ _ rfl rfl (fun w hw => faE8 w _ _)
                                  · exact zld rfl ⟨_, rfl, by kernel_rfl⟩ _ _ _ rfl rfl (fun w hw => load_se (N := D.c.un) (hw.de.cc (j := 11) (by decide) rfl) (hw.de.cc (j := 12) (by decide) rfl) (hw.de.cc (j := 13) (by decide) rfl) (hw.de.cc (j := 14) (by decide) rfl))
                                  · exact zfa rfl ⟨_, rfl, by kernel_rfl⟩ _ _ _ _ rfl rfl (fun w hw => faE5 w _ _)
                                  · exact zld rfl ⟨_, rfl, by kernel_rfl⟩ _ _ _ rfl rfl (fun w hw => load_in ((zca hw.bx 5).trans rfl))
                                  · exact zsc rfl ⟨_, rfl, by kernel_rfl⟩ 20 _ _ [(sv D.c.un), (.int .i64 of)] rfl (by kernel_rfl) (enters_of Try.func20 (by kernel_rfl) rfl) (fun w hw => (rHas_any (D.c.un) (of) w).mono (by rintro e w' ⟨rfl, hb⟩; exact ⟨congrArg (fun z => Ending.returned (Value.bool z)) h25_2, hw.carry hb⟩))
                                  · exact step_pick rfl trivial _ _ _ false rfl (by kernel_rfl) (by kernel_rfl)
                                  · exact zmv rfl trivial _ rfl (by kernel_rfl)
                                  · exact zfa rfl ⟨_, rfl, by kernel_rfl⟩ _ _ _ _ rfl rfl (fun w hw => faE5 w _ _)
                                  · exact zld rfl ⟨_, rfl, by kernel_rfl⟩ _ _ _ rfl rfl (fun w hw => load_in ((zca hw.bx 5).trans rfl))
                                  · exact zmv rfl ⟨_, rfl, by kernel_rfl⟩ _ rfl (by kernel_rfl)
                                  · exact znc rfl ⟨_, rfl, by kernel_rfl⟩ _ _ _ rfl rfl rfl
                                  · exact zfa rfl ⟨_, rfl, by kernel_rfl⟩ _ _ _ _ rfl rfl (fun w hw => faD5 w _ _)
                                  · exact zld rfl ⟨_, rfl, by kernel_rfl⟩ _ _ _ rfl rfl (fun w hw => load_in hw.de.cla)
                                  · exact zbo rfl ⟨_, rfl, by kernel_rfl⟩ _ _ _ _ _ _ _ rfl rfl rfl (fun w hw => by rw [← h25_3]; exact bin_leq _ _ _)
                                  · exact step_pick rfl trivial _ _ _ false rfl (by kernel_rfl) (by kernel_rfl)
                                  · exact zmv rfl trivial _ rfl (by kernel_rfl)
                                  · exact zfa rfl ⟨_, rfl, by kernel_rfl⟩ _ _ _ _ rfl rfl (fun w hw => faE4 w _ _)
                                  · exact zld rfl ⟨_, rfl, by kernel_rfl⟩ _ _ _ rfl rfl (fun w hw => load_in ((zca hw.bx 4).trans rfl))
                                  · exact zbo rfl ⟨_, rfl, by kernel_rfl⟩ _ _ _ _ _ _ _ rfl rfl rfl (fun w hw => by rw [← h25_4]; exact bin_lss _ _ _)
                                  · exact step_pick rfl trivial _ _ _ false rfl (by kernel_rfl) (by kernel_rfl)
                                  · exact zmv rfl trivial _ rfl (by kernel_rfl)
                                  · exact zfa rfl ⟨_, rfl, by kernel_rfl⟩ _ _ _ _ rfl rfl (fun w hw => faE4 w _ _)
                                  · exact zld rfl ⟨_, rfl, by kernel_rfl⟩ _ _ _ rfl rfl (fun w hw => load_in ((zca hw.bx 4).trans rfl))
                                  · exact zbo rfl ⟨_, rfl, by kernel_rfl⟩ _ _ _ _ _ _ _ rfl rfl rfl (fun w hw => by rw [← h25_5]; exact bin_gtr _ _ _)
                                  · exact step_pick rfl trivial _ _ _ false rfl (by kernel_rfl) (by kernel_rfl)
                                  · exact zmv rfl trivial _ rfl (by kernel_rfl)
                                  · exact zfa rfl ⟨_, rfl, by kernel_rfl⟩ _ _ _ _ rfl rfl (fun w hw => faE3 w _ _)
                                  · exact zld rfl ⟨_, rfl, by kernel_rfl⟩ _ _ _ rfl rfl (fun w hw => load_in ((zca hw.bx 3).trans rfl))
                                  · exact zmv rfl ⟨_, rfl, by kernel_rfl⟩ _ rfl (by kernel_rfl)
                                  · exact znc rfl ⟨_, rfl, by kernel_rfl⟩ _ _ _ rfl rfl rfl
                                  · exact zfa rfl ⟨_, rfl, by kernel_rfl⟩ _ _ _ _ rfl rfl (fun w hw => faD4 w _ _)
                                  · exact zfa rfl ⟨_, rfl, by kernel_rfl⟩ _ _ _ _ rfl rfl (fun w hw => faE3 w _ _)
                                  · exact zld rfl ⟨_, rfl, by kernel_rfl⟩ _ _ _ rfl rfl (fun w hw => load_in (hw.de.cc (j := 3) (by decide) rfl))
                                  · exact zbo rfl ⟨_, rfl, by kernel_rfl⟩ _ _ _ _ _ _ _ rfl rfl rfl (fun w hw => by rw [← h25_6]; exact bin_neq _ _ _)
                                  · exact step_pick rfl trivial _ _ _ false rfl (by kernel_rfl) (by kernel_rfl)
                                intro W hW
                                first | refine hK _ _ ?_ | refine (‹∀ (a : Act) (w : World), Code.wp Try.prog _ _ a w → _›) _ _ ?_ | skip
                                simp only [finL, List.getD_cons_zero, List.getD_cons_succ, Nat.zero_add, Nat.reduceAdd, List.setIfInBounds_toArray, List.set_cons_zero, List.set_cons_succ]
                                go_wp2
                                go_ret
                                exact ho_no (by rw [HO2]; unfold dlw dl4; try simp only [h4_0]; try simp only [h25_0]; try simp only [h25_1]; try simp only [h25_2]; try simp only [h25_3]; try simp only [h25_4]; try simp only [h25_5]; try simp only [h25_6]; rfl) hW.tn
                              | false =>
                                refine wp_region_any hmx ?_
                                refine zwp (fun i__ => ([(.pointer (some ⟨w.heap.size, 5, none⟩)), (.int .i64 of), (.bool false), (.bool false), (.pointer (some ⟨w.heap.size, 5, none⟩)), (.int .i64 of), (.pointer (some ⟨y, 0, none⟩)), (.pointer (some ⟨y, 0, none⟩)), (.pointer (some ⟨y, 0, none⟩)), (.int .i64 n), (.bool false), (.bool false), (.bool false), (.pointer (some ⟨y, 0, none⟩)), (.pointer (some ⟨y, 0, none⟩)), (.pointer (some ⟨y, 603, none⟩)), (.pointer (some ⟨y, 614, none⟩)), (sv D.c.un), (.pointer (some ⟨w.heap.size, 5, none⟩)), (.int .i64 of), (.bool false), (.bool false), (.bool false), (.pointer (some ⟨w.heap.size, 5, none⟩)), (.int .i64 of), (.pointer (some ⟨y, 0, none⟩)), (.pointer (some ⟨y, 0, none⟩)), (.pointer (some ⟨y, 618, none⟩)), (.int .i64 D.la), (.bool false), (.bool false), (.bool false), (.pointer (some ⟨w.heap.size, 4, none⟩)), (.int .i64 ta), (.bool false), (.bool false), (.bool false), (.pointer (some ⟨w.heap.size, 4, none⟩)), (.int .i64 ta), (.bool false), (.bool false), (.bool false), (.pointer (some ⟨w.heap.size, 3, none⟩)), (.int .i64 ro), (.pointer (some ⟨y, 0, none⟩)), (.pointer (some ⟨y, 0, none⟩)), (.pointer (some ⟨y, 603, none⟩)), (.pointer (some ⟨y, 606, none⟩)), (.int .i64 D.c.ro), (.bool false), (.bool false)] : List Value).getD i__ undef) (fun V => JH w y w.heap.size n f D ⟨4, nd, li, ro, ta, of, du, he, un⟩ V) (by kernel_rfl) (hJ6.carry (Below.refl _ _).drew) ?_ ?_
                                · refine (sqc ?_ (sqc ?_ (sqc ?_ (sqc ?_ (sqc ?_ (sqc ?_ (sqc ?_ (sqc ?_ (sqc ?_ (sqc ?_ (sqc ?_ (sqc ?_ (sqc ?_ (sqc ?_ (sqc ?_ (sqc ?_ (sqc ?_ (sqc ?_ (sqc ?_ (sqc ?_ (sqc ?_ (sqc ?_ (sqc ?_ (sqc ?_ (sqc ?_ (sqc ?_ (sqc ?_ (sqc ?_ (sqc ?_ (sqc ?_ (sqc ?_ (sqc ?_ (sqc ?_ (sqc ?_ (sqc ?_ (sqc ?_ (sqc ?_ (sqc ?_ (sqc ?_ (sqc ?_ (sqc ?_ (sqc ?_ (sqc ?_ (sqc ?_ (sqc ?_ (sqc ?_ (sqc ?_ (sqc ?_ (sqc ?_ (sqc ?_ (sqc ?_ trivial)))))))))))))))))))))))))))))))))))))))))))))))))))
                                  · exact zfa rfl trivial _ _ _ _ rfl rfl (fun w hw => faE5 w _ _)
                                  · exact zld rfl trivial _ _ _ rfl rfl (fun w hw => load_in ((zca hw.bx 5).trans rfl))
                                  · exact zbo rfl trivial _ _ _ _ _ _ _ rfl rfl rfl (fun w hw => by rw [← h25_0]; exact bin_lss _ _ _)
                                  · exact zmv rfl trivial _ rfl (by kernel_rfl)
                                  · exact zfa rfl ⟨_, rfl, by kernel_rfl⟩ _ _ _ _ rfl rfl (fun w hw => faE5 w _ _)
                                  · exact zld rfl ⟨_, rfl, by kernel_rfl⟩ _ _ _ rfl rfl (fun w hw => load_in ((zca hw.bx 5).trans rfl))
                                  · exact zmv rfl ⟨_, rfl, by kernel_rfl⟩ _ rfl (by kernel_rfl)
                                  · exact znc rfl ⟨_, rfl, by kernel_rfl⟩ _ _ _ rfl rfl rfl
                                  · exact zfa rfl ⟨_, rfl, by kernel_rfl⟩ _ _ _ _ rfl rfl (fun w hw => faD0 w _ _)
                                  · exact zld rfl ⟨_, rfl, by kernel_rfl⟩ _ _ _ rfl rfl (fun w hw => load_in hw.de.c0)
                                  · exact zbo rfl ⟨_, rfl, by kernel_rfl⟩ _ _ _ _ _ _ _ rfl rfl rfl (fun w hw => by rw [← h25_1]; exact bin_geq _ _ _)
                                  · exact step_pick rfl trivial _ _ _ false rfl (by kernel_rfl) (by kernel_rfl)
                                  · exact zmv rfl trivial _ rfl (by kernel_rfl)
                                  · exact zmv rfl ⟨_, rfl, by kernel_rfl⟩ _ rfl (by kernel_rfl)
                                  · exact znc rfl ⟨_, rfl, by kernel_rfl⟩ _ _ _ rfl rfl rfl
                                  · exact zfa rfl ⟨_, rfl, by kernel_rfl⟩ _ _ _ _ rfl rfl (fun w hw => faD4 w _ _)
                                  · exact zfa rfl ⟨_, rfl, by kernel_rfl⟩ _ _ _ _ rfl rfl (fun w hw => faE8 w _ _)
                                  · exact zld rfl ⟨_, rfl, by kernel_rfl⟩ _ _ _ rfl rfl (fun w hw => load_se (N := D.c.un) (hw.de.cc (j := 11) (by decide) rfl) (hw.de.cc (j := 12) (by decide) rfl) (hw.de.cc (j := 13) (by decide) rfl) (hw.de.cc (j := 14) (by decide) rfl))
                                  · exact zfa rfl ⟨_, rfl, by kernel_rfl⟩ _ _ _ _ rfl rfl (fun w hw => faE5 w _ _)
                                  · exact zld rfl ⟨_, rfl, by kernel_rfl⟩ _ _ _ rfl rfl (fun w hw => load_in ((zca hw.bx 5).trans rfl))
                                  · exact zsc rfl ⟨_, rfl, by kernel_rfl⟩ 20 _ _ [(sv D.c.un), (.int .i64 of)] rfl (by kernel_rfl) (enters_of Try.func20 (by kernel_rfl) rfl) (fun w hw => (rHas_any (D.c.un) (of) w).mono (by rintro e w' ⟨rfl, hb⟩; exact ⟨congrArg (fun z => Ending.returned (Value.bool z)) h25_2, hw.carry hb⟩))
                                  · exact step_pick rfl trivial _ _ _ false rfl (by kernel_rfl) (by kernel_rfl)
                                  · exact zmv rfl trivial _ rfl (by kernel_rfl)
                                  · exact zfa rfl ⟨_, rfl, by kernel_rfl⟩ _ _ _ _ rfl rfl (fun w hw => faE5 w _ _)
                                  · exact zld rfl ⟨_, rfl, by kernel_rfl⟩ _ _ _ rfl rfl (fun w hw => load_in ((zca hw.bx 5).trans rfl))
                                  · exact zmv rfl ⟨_, rfl, by kernel_rfl⟩ _ rfl (by kernel_rfl)
                                  · exact znc rfl ⟨_, rfl, by kernel_rfl⟩ _ _ _ rfl rfl rfl
                                  · exact zfa rfl ⟨_, rfl, by kernel_rfl⟩ _ _ _ _ rfl rfl (fun w hw => faD5 w _ _)
                                  · exact zld rfl ⟨_, rfl, by kernel_rfl⟩ _ _ _ rfl rfl (fun w hw => load_in hw.de.cla)
                                  · exact zbo rfl ⟨_, rfl, by kernel_rfl⟩ _ _ _ _ _ _ _ rfl rfl rfl (fun w hw => by rw [← h25_3]; exact bin_leq _ _ _)
                                  · exact step_pick rfl trivial _ _ _ false rfl (by kernel_rfl) (by kernel_rfl)
                                  · exact zmv rfl trivial _ rfl (by kernel_rfl)
                                  · exact zfa rfl ⟨_, rfl, by kernel_rfl⟩ _ _ _ _ rfl rfl (fun w hw => faE4 w _ _)
                                  · exact zld rfl ⟨_, rfl, by kernel_rfl⟩ _ _ _ rfl rfl (fun w hw => load_in ((zca hw.bx 4).trans rfl))
                                  · exact zbo rfl ⟨_, rfl, by kernel_rfl⟩ _ _ _ _ _ _ _ rfl rfl rfl (fun w hw => by rw [← h25_4]; exact bin_lss _ _ _)
                                  · exact step_pick rfl trivial _ _ _ false rfl (by kernel_rfl) (by kernel_rfl)
                                  · exact zmv rfl trivial _ rfl (by kernel_rfl)
                                  · exact zfa rfl ⟨_, rfl, by kernel_rfl⟩ _ _ _ _ rfl rfl (fun w hw => faE4 w _ _)
                                  · exact zld rfl ⟨_, rfl, by kernel_rfl⟩ _ _ _ rfl rfl (fun w hw => load_in ((zca hw.bx 4).trans rfl))
                                  · exact zbo rfl ⟨_, rfl, by kernel_rfl⟩ _ _ _ _ _ _ _ rfl rfl rfl (fun w hw => by rw [← h25_5]; exact bin_gtr _ _ _)
                                  · exact step_pick rfl trivial _ _ _ false rfl (by kernel_rfl) (by kernel_rfl)
                                  · exact zmv rfl trivial _ rfl (by kernel_rfl)
                                  · exact zfa rfl ⟨_, rfl, by kernel_rfl⟩ _ _ _ _ rfl rfl (fun w hw => faE3 w _ _)
                                  · exact zld rfl ⟨_, rfl, by kernel_rfl⟩ _ _ _ rfl rfl (fun w hw => load_in ((zca hw.bx 3).trans rfl))
                                  · exact zmv rfl ⟨_, rfl, by kernel_rfl⟩ _ rfl (by kernel_rfl)
                                  · exact znc rfl ⟨_, rfl, by kernel_rfl⟩ _ _ _ rfl rfl rfl
                                  · exact zfa rfl ⟨_, rfl, by kernel_rfl⟩ _ _ _ _ rfl rfl (fun w hw => faD4 w _ _)
                                  · exact zfa rfl ⟨_, rfl, by kernel_rfl⟩ _ _ _ _ rfl rfl (fun w hw => faE3 w _ _)
                                  · exact zld rfl ⟨_, rfl, by kernel_rfl⟩ _ _ _ rfl rfl (fun w hw => load_in (hw.de.cc (j := 3) (by decide) rfl))
                                  · exact zbo rfl ⟨_, rfl, by kernel_rfl⟩ _ _ _ _ _ _ _ rfl rfl rfl (fun w hw => by rw [← h25_6]; exact bin_neq _ _ _)
                                  · exact step_pick rfl trivial _ _ _ false rfl (by kernel_rfl) (by kernel_rfl)
                                intro W hW
                                first | refine hK _ _ ?_ | refine (‹∀ (a : Act) (w : World), Code.wp Try.prog _ _ a w → _›) _ _ ?_ | skip
                                simp only [finL, List.getD_cons_zero, List.getD_cons_succ, Nat.zero_add, Nat.reduceAdd, List.setIfInBounds_toArray, List.set_cons_zero, List.set_cons_succ]
                                obtain ⟨W7, rfl⟩ : ∃ V, V = W := ⟨_, rfl⟩
                                have hJ7 := hW
                                clear hW
                                have HF : Hid (hold n f D ⟨4, nd, li, ro, ta, of, du, he, un⟩ = some ⟨D.ds, D.rb, D.c, of⟩) := by rw [HO2]; unfold dlw dl4; try simp only [h4_0]; try simp only [h25_0]; try simp only [h25_1]; try simp only [h25_2]; try simp only [h25_3]; try simp only [h25_4]; try simp only [h25_5]; try simp only [h25_6]; rfl
                                have cl : W7.cell? ⟨y, 618, none⟩ = some (.int .i64 D.la) := hJ7.de.cla
                                have zl := hJ7.de.frz 618
                                have cq5 : W7.cell? ⟨w.heap.size, 5, none⟩ = some (.int .i64 of) := (zca hJ7.bx 5).trans rfl
                                have hfin := hJ7.de.lput of
                                have htn := hJ7.tn.trans (Tn.put W7 y y 618 (.int .i64 of))
                                clear hJ0 hJ1 hJ3 hJ4 HO HO2 HP HR h hJ6 hJ7
                                go_wp2
                                go_ret
                                exact ho_yes HF.out hfin htn
              | false =>
                refine wp_region_any hmx ?_
                refine zwp (fun i__ => ([(.pointer (some ⟨w.heap.size, 0, none⟩)), (.int .i64 4), (.bool true), (.bool true), (.pointer (some ⟨y, 2 + m * 6, none⟩)), (.pointer (some ⟨y, 2 + m * 6, none⟩)), (.pointer (some ⟨y, 2 + m * 6, none⟩)), (.bool false), (.bool true), (.bool true), undef, undef, undef, undef, undef, undef, undef, (.bool true), (.bool true)] : List Value).getD i__ undef) (fun V => JH w y w.heap.size n f D ⟨4, nd, li, ro, ta, of, du, he, un⟩ V) (by kernel_rfl) (hJ4.carry (Below.refl _ _).drew) ?_ ?_
                · refine (sqc ?_ (sqc ?_ (sqc ?_ (sqc ?_ (sqc ?_ (sqc ?_ (sqc ?_ (sqc ?_ (sqc ?_ (sqc ?_ (sqc ?_ (sqc ?_ (sqc ?_ (sqc ?_ (sqc ?_ (sqc ?_ (sqc ?_ (sqc ?_ (sqc ?_ trivial)))))))))))))))))))
                  · exact zfa rfl trivial _ _ _ _ rfl rfl (fun w hw => faE0 w _ _)
                  · exact zld rfl trivial _ _ _ rfl rfl (fun w hw => load_in ((zca hw.bx 0).trans rfl))
                  · exact zbo rfl trivial _ _ _ _ _ _ _ rfl rfl rfl (fun w hw => bin_neq _ _ _)
                  · exact zmv rfl trivial _ rfl (by kernel_rfl)
                  · exact zmv rfl ⟨_, rfl, by kernel_rfl⟩ _ rfl (by kernel_rfl)
                  · exact znc rfl ⟨_, rfl, by kernel_rfl⟩ _ _ _ rfl rfl rfl
                  · exact zfa rfl ⟨_, rfl, by kernel_rfl⟩ _ _ _ _ rfl rfl (fun w hw => faM0 w _ _)
                  · exact zld rfl ⟨_, rfl, by kernel_rfl⟩ _ _ _ rfl rfl (fun w hw => by rw [← h6_0]; exact load_bo (hw.de.cn hm (j := 0) (by decide) rfl))
                  · exact step_unOp rfl ⟨_, rfl, by kernel_rfl⟩ _ _ _ _ rfl rfl (fun w hw => rfl)
                  · exact zmv rfl ⟨_, rfl, by kernel_rfl⟩ _ rfl (by kernel_rfl)
                  · exact zsk rfl 9 false 94 (.bool true) rfl rfl (by kernel_rfl) (by intro h; cases h) rfl
                  · exact zsk rfl 9 false 94 (.bool true) rfl rfl (by kernel_rfl) (by intro h; cases h) rfl
                  · exact zsk rfl 9 false 94 (.bool true) rfl rfl (by kernel_rfl) (by intro h; cases h) rfl
                  · exact zsk rfl 9 false 94 (.bool true) rfl rfl (by kernel_rfl) (by intro h; cases h) rfl
                  · exact zsk rfl 9 false 94 (.bool true) rfl rfl (by kernel_rfl) (by intro h; cases h) rfl
                  · exact zsk rfl 9 false 94 (.bool true) rfl rfl (by kernel_rfl) (by intro h; cases h) rfl
                  · exact zsk rfl 9 false 94 (.bool true) rfl rfl (by kernel_rfl) (by intro h; cases h) rfl
                  · exact step_pick rfl ⟨_, rfl, by kernel_rfl⟩ _ _ _ true rfl (by kernel_rfl) (by kernel_rfl)
                  · exact step_pick rfl trivial _ _ _ true rfl (by kernel_rfl) (by kernel_rfl)
                intro W hW
                first | refine hK _ _ ?_ | refine (‹∀ (a : Act) (w : World), Code.wp Try.prog _ _ a w → _›) _ _ ?_ | skip
                simp only [finL, List.getD_cons_zero, List.getD_cons_succ, Nat.zero_add, Nat.reduceAdd, List.setIfInBounds_toArray, List.set_cons_zero, List.set_cons_succ]
                go_wp2
                go_ret
                exact ho_no (by rw [HO]; unfold upbad; try simp only [h6_0]; rfl) hW.tn
          | false =>
            refine wp_region_any hmx ?_
            refine zwp (fun i__ => ([(.pointer (some ⟨y, 0, none⟩)), (.pointer (some ⟨y, 0, none⟩)), (.pointer (some ⟨y, 602, none⟩)), (.bool false), (.bool false), undef, undef, undef, undef, undef, undef, undef, undef, undef, undef, undef, undef, undef, undef, undef, undef, undef, undef, (.bool false), (.bool false), (.pointer (some ⟨y, 0, none⟩)), (.pointer (some ⟨y, 0, none⟩)), (.pointer (some ⟨y, 602, none⟩)), (.bool false), (.bool true), (.bool true), (.pointer (some ⟨w.heap.size, 0, none⟩)), (.int .i64 4), (.bool true), (.bool true), (.bool true)] : List Value).getD i__ undef) (fun V => JH w y w.heap.size n f D ⟨4, nd, li, ro, ta, of, du, he, un⟩ V) (by kernel_rfl) (hJ3.carry (Below.refl _ _).drew) ?_ ?_
            · refine (sqc ?_ (sqc ?_ (sqc ?_ (sqc ?_ (sqc ?_ (sqc ?_ (sqc ?_ (sqc ?_ (sqc ?_ (sqc ?_ (sqc ?_ (sqc ?_ (sqc ?_ (sqc ?_ (sqc ?_ (sqc ?_ (sqc ?_ (sqc ?_ (sqc ?_ (sqc ?_ (sqc ?_ (sqc ?_ (sqc ?_ (sqc ?_ (sqc ?_ (sqc ?_ (sqc ?_ (sqc ?_ (sqc ?_ (sqc ?_ (sqc ?_ (sqc ?_ (sqc ?_ (sqc ?_ (sqc ?_ (sqc ?_ trivial))))))))))))))))))))))))))))))))))))
              · exact zmv rfl trivial _ rfl (by kernel_rfl)
              · exact znc rfl trivial _ _ _ rfl rfl rfl
              · exact zfa rfl trivial _ _ _ _ rfl rfl (fun w hw => faD3 w _ _)
              · exact zld rfl trivial _ _ _ rfl rfl (fun w hw => by rw [← h4_0]; exact load_bo hw.de.crb)
              · exact zmv rfl trivial _ rfl (by kernel_rfl)
              · exact zsk rfl 4 true 53 (.bool false) rfl rfl (by kernel_rfl) (by intro h; cases h) rfl
              · exact zsk rfl 4 true 53 (.bool false) rfl rfl (by kernel_rfl) (by intro h; cases h) rfl
              · exact zsk rfl 4 true 53 (.bool false) rfl rfl (by kernel_rfl) (by intro h; cases h) rfl
              · exact zsk rfl 4 true 53 (.bool false) rfl rfl (by kernel_rfl) (by intro h; cases h) rfl
              · exact zsk rfl 4 true 53 (.bool false) rfl rfl (by kernel_rfl) (by intro h; cases h) rfl
              · exact zsk rfl 4 true 53 (.bool false) rfl rfl (by kernel_rfl) (by intro h; cases h) rfl
              · exact zsk rfl 4 true 53 (.bool false) rfl rfl (by kernel_rfl) (by intro h; cases h) rfl
              · exact zsk rfl 4 true 53 (.bool false) rfl rfl (by kernel_rfl) (by intro h; cases h) rfl
              · exact zsk rfl 4 true 53 (.bool false) rfl rfl (by kernel_rfl) (by intro h; cases h) rfl
              · exact zsk rfl 13 false 62 undef rfl rfl (by kernel_rfl) (by intro h; cases h) rfl
              · exact zsk rfl 13 false 62 undef rfl rfl (by kernel_rfl) (by intro h; cases h) rfl
              · exact zsk rfl 13 false 62 undef rfl rfl (by kernel_rfl) (by intro h; cases h) rfl
              · exact zsk rfl 13 false 62 undef rfl rfl (by kernel_rfl) (by intro h; cases h) rfl
              · exact zsk rfl 17 true 66 undef rfl rfl (by kernel_rfl) (by intro h; cases h) rfl
              · exact zsk rfl 17 true 66 undef rfl rfl (by kernel_rfl) (by intro h; cases h) rfl
              · exact zsk rfl 17 true 66 undef rfl rfl (by kernel_rfl) (by intro h; cases h) rfl
              · exact zsk rfl 13 false 62 undef rfl rfl (by kernel_rfl) (by intro h; cases h) rfl
              · exact zsk rfl 4 true 53 (.bool false) rfl rfl (by kernel_rfl) (by intro h; cases h) rfl
              · exact step_pick rfl trivial _ _ _ false rfl (by kernel_rfl) (by kernel_rfl)
              · exact zmv rfl trivial _ rfl (by kernel_rfl)
              · exact zmv rfl ⟨_, rfl, by kernel_rfl⟩ _ rfl (by kernel_rfl)
              · exact znc rfl ⟨_, rfl, by kernel_rfl⟩ _ _ _ rfl rfl rfl
              · exact zfa rfl ⟨_, rfl, by kernel_rfl⟩ _ _ _ _ rfl rfl (fun w hw => faD3 w _ _)
              · exact zld rfl ⟨_, rfl, by kernel_rfl⟩ _ _ _ rfl rfl (fun w hw => by rw [← h4_0]; exact load_bo hw.de.crb)
              · exact step_unOp rfl ⟨_, rfl, by kernel_rfl⟩ _ _ _ _ rfl rfl (fun w hw => rfl)
              · exact zmv rfl ⟨_, rfl, by kernel_rfl⟩ _ rfl (by kernel_rfl)
              · exact zfa rfl ⟨_, rfl, by kernel_rfl⟩ _ _ _ _ rfl rfl (fun w hw => faE0 w _ _)
              · exact zld rfl ⟨_, rfl, by kernel_rfl⟩ _ _ _ rfl rfl (fun w hw => load_in ((zca hw.bx 0).trans rfl))
              · exact zbo rfl ⟨_, rfl, by kernel_rfl⟩ _ _ _ _ _ _ _ rfl rfl rfl (fun w hw => bin_eql _ _ _)
              · exact step_pick rfl ⟨_, rfl, by kernel_rfl⟩ _ _ _ true rfl (by kernel_rfl) (by kernel_rfl)
              · exact step_pick rfl trivial _ _ _ false rfl (by kernel_rfl) (by kernel_rfl)
            intro W hW
            first | refine hK _ _ ?_ | refine (‹∀ (a : Act) (w : World), Code.wp Try.prog _ _ a w → _›) _ _ ?_ | skip
            simp only [finL, List.getD_cons_zero, List.getD_cons_succ, Nat.zero_add, Nat.reduceAdd, List.setIfInBounds_toArray, List.set_cons_zero, List.set_cons_succ]
            go_wp2
            go_ret
            exact ho_no (by unfold hold; rw [HP]; unfold rwbad; try simp only [h4_0]; rfl) hW.tn
        | false =>
          refine wp_region_any hmx ?_
          refine zwp (fun i__ => ([(.pointer (some ⟨w.heap.size, 0, none⟩)), (.int .i64 4), (.bool false), (.bool false), (.pointer (some ⟨w.heap.size, 0, none⟩)), (.int .i64 4), (.bool false), (.bool false), (.bool false), (.pointer (some ⟨w.heap.size, 1, none⟩)), (.int .i64 nd), (.bool false), (.bool false), (.bool false), (.pointer (some ⟨w.heap.size, 1, none⟩)), (.int .i64 nd), (.pointer (some ⟨y, 0, none⟩)), (.pointer (some ⟨y, 0, none⟩)), (.pointer (some ⟨y, 0, none⟩)), (.int .i64 n), (.bool false), (.bool false), (.bool false), (.pointer (some ⟨w.heap.size, 2, none⟩)), (.int .i64 li), (.bool false), (.bool false), (.bool false), (.pointer (some ⟨w.heap.size, 2, none⟩)), (.int .i64 li), (.bool false), (.bool false), (.bool false), (evV ⟨4, nd, li, ro, ta, of, du, he, un⟩), (.bool false), (.bool true), (.bool true)] : List Value).getD i__ undef) (fun V => JH w y w.heap.size n f D ⟨4, nd, li, ro, ta, of, du, he, un⟩ V) (by kernel_rfl) (hJ0.carry (Below.refl _ _).drew) ?_ ?_
          · refine (sqc ?_ (sqc ?_ (sqc ?_ (sqc ?_ (sqc ?_ (sqc ?_ (sqc ?_ (sqc ?_ (sqc ?_ (sqc ?_ (sqc ?_ (sqc ?_ (sqc ?_ (sqc ?_ (sqc ?_ (sqc ?_ (sqc ?_ (sqc ?_ (sqc ?_ (sqc ?_ (sqc ?_ (sqc ?_ (sqc ?_ (sqc ?_ (sqc ?_ (sqc ?_ (sqc ?_ (sqc ?_ (sqc ?_ (sqc ?_ (sqc ?_ (sqc ?_ (sqc ?_ (sqc ?_ (sqc ?_ (sqc ?_ (sqc ?_ trivial)))))))))))))))))))))))))))))))))))))
            · exact zfa rfl trivial _ _ _ _ rfl rfl (fun w hw => faE0 w _ _)
            · exact zld rfl trivial _ _ _ rfl rfl (fun w hw => load_in ((zca hw.bx 0).trans rfl))
            · exact zbo rfl trivial _ _ _ _ _ _ _ rfl rfl rfl (fun w hw => bin_lss _ _ _)
            · exact zmv rfl trivial _ rfl (by kernel_rfl)
            · exact zfa rfl ⟨_, rfl, by kernel_rfl⟩ _ _ _ _ rfl rfl (fun w hw => faE0 w _ _)
            · exact zld rfl ⟨_, rfl, by kernel_rfl⟩ _ _ _ rfl rfl (fun w hw => load_in ((zca hw.bx 0).trans rfl))
            · exact zbo rfl ⟨_, rfl, by kernel_rfl⟩ _ _ _ _ _ _ _ rfl rfl rfl (fun w hw => bin_gtr _ _ _)
            · exact step_pick rfl trivial _ _ _ false rfl (by kernel_rfl) (by kernel_rfl)
            · exact zmv rfl trivial _ rfl (by kernel_rfl)
            · exact zfa rfl ⟨_, rfl, by kernel_rfl⟩ _ _ _ _ rfl rfl (fun w hw => faE1 w _ _)
            · exact zld rfl ⟨_, rfl, by kernel_rfl⟩ _ _ _ rfl rfl (fun w hw => load_in ((zca hw.bx 1).trans rfl))
            · exact zbo rfl ⟨_, rfl, by kernel_rfl⟩ _ _ _ _ _ _ _ rfl rfl rfl (fun w hw => by rw [← h1_0]; exact bin_lss _ _ _)
            · exact step_pick rfl trivial _ _ _ false rfl (by kernel_rfl) (by kernel_rfl)
            · exact zmv rfl trivial _ rfl (by kernel_rfl)
            · exact zfa rfl ⟨_, rfl, by kernel_rfl⟩ _ _ _ _ rfl rfl (fun w hw => faE1 w _ _)
            · exact zld rfl ⟨_, rfl, by kernel_rfl⟩ _ _ _ rfl rfl (fun w hw => load_in ((zca hw.bx 1).trans rfl))
            · exact zmv rfl ⟨_, rfl, by kernel_rfl⟩ _ rfl (by kernel_rfl)
            · exact znc rfl ⟨_, rfl, by kernel_rfl⟩ _ _ _ rfl rfl rfl
            · exact zfa rfl ⟨_, rfl, by kernel_rfl⟩ _ _ _ _ rfl rfl (fun w hw => faD0 w _ _)
            · exact zld rfl ⟨_, rfl, by kernel_rfl⟩ _ _ _ rfl rfl (fun w hw => load_in hw.de.c0)
            · exact zbo rfl ⟨_, rfl, by kernel_rfl⟩ _ _ _ _ _ _ _ rfl rfl rfl (fun w hw => by rw [← h1_1]; exact bin_geq _ _ _)
            · exact step_pick rfl trivial _ _ _ false rfl (by kernel_rfl) (by kernel_rfl)
            · exact zmv rfl trivial _ rfl (by kernel_rfl)
            · exact zfa rfl ⟨_, rfl, by kernel_rfl⟩ _ _ _ _ rfl rfl (fun w hw => faE2 w _ _)
            · exact zld rfl ⟨_, rfl, by kernel_rfl⟩ _ _ _ rfl rfl (fun w hw => load_in ((zca hw.bx 2).trans rfl))
            · exact zbo rfl ⟨_, rfl, by kernel_rfl⟩ _ _ _ _ _ _ _ rfl rfl rfl (fun w hw => by rw [← h1_2]; exact bin_lss _ _ _)
            · exact step_pick rfl trivial _ _ _ false rfl (by kernel_rfl) (by kernel_rfl)
            · exact zmv rfl trivial _ rfl (by kernel_rfl)
            · exact zfa rfl ⟨_, rfl, by kernel_rfl⟩ _ _ _ _ rfl rfl (fun w hw => faE2 w _ _)
            · exact zld rfl ⟨_, rfl, by kernel_rfl⟩ _ _ _ rfl rfl (fun w hw => load_in ((zca hw.bx 2).trans rfl))
            · exact zbo rfl ⟨_, rfl, by kernel_rfl⟩ _ _ _ _ _ _ _ rfl rfl rfl (fun w hw => by rw [← h1_3]; exact bin_gtr _ _ _)
            · exact step_pick rfl trivial _ _ _ false rfl (by kernel_rfl) (by kernel_rfl)
            · exact zmv rfl trivial _ rfl (by kernel_rfl)
            · exact zld rfl ⟨_, rfl, by kernel_rfl⟩ _ _ _ rfl rfl (fun w hw => load_bx hw.bx)
            · exact zsc rfl ⟨_, rfl, by kernel_rfl⟩ 17 _ _ [(evV ⟨4, nd, li, ro, ta, of, du, he, un⟩)] rfl (by kernel_rfl) (enters_of Try.func17 (by kernel_rfl) rfl) (fun w hw => (rbare_any ⟨4, nd, li, ro, ta, of, du, he, un⟩ hhe hun w).mono (by rintro e w' ⟨rfl, hb⟩; exact ⟨congrArg (fun z => Ending.returned (Value.bool z)) h1_4, hw.carry hb⟩))
            · exact step_unOp rfl ⟨_, rfl, by kernel_rfl⟩ _ _ _ _ rfl rfl (fun w hw => rfl)
            · exact step_pick rfl trivial _ _ _ false rfl (by kernel_rfl) (by kernel_rfl)
          intro W hW
          first | refine hK _ _ ?_ | refine (‹∀ (a : Act) (w : World), Code.wp Try.prog _ _ a w → _›) _ _ ?_ | skip
          simp only [finL, List.getD_cons_zero, List.getD_cons_succ, Nat.zero_add, Nat.reduceAdd, List.setIfInBounds_toArray, List.set_cons_zero, List.set_cons_succ]
          go_wp2
          go_ret
          exact ho_no (by unfold hold dpre; try simp only [h1_0]; try simp only [h1_1]; try simp only [h1_2]; try simp only [h1_3]; try simp only [h1_4]; rfl) hW.tn
end Go.Proofs.Ytifcnnonnocmmaa
