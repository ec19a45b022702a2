import Derived.Test.YtifcnnonnocmmaaJnJ15
set_option maxHeartbeats 40000000
set_option maxRecDepth 100000
set_option linter.unusedVariables false
namespace Go.Proofs.Ytifcnnonnocmmaa
open Go.RowKit Go.Shelf Go.Lib
attribute [local go_sem] Oper.semAt_some
theorem hold_1 {w : World} {y : Nat} {n f : Int} {D : Ds} (h : De w y n f D) (hn : 1 ≤ n ∧ n ≤ 100) (_hf : 0 ≤ f ∧ f < n) (nd li ro ta of du : Int) (he un : Nat) (hhe : he < S128) (hun : un < S128) : Calls Try.prog 12 #[.pointer (some ⟨y, 0, none⟩), evV ⟨1, nd, li, ro, ta, of, du, he, un⟩] w (Ho y n f w (hold n f D ⟨1, nd, li, ro, ta, of, du, he, un⟩)) := by
 have hmx : Try.prog.follows .mixedOrders = true := by kernel_rfl
 have hJ0 := JH.new h ⟨1, nd, li, ro, ta, of, du, he, un⟩
 unfold evV ecA
 go_enter Try.func12, Try.ntmps12
 go_wp2
 cases h1_0 : decide (nd < 0) with
 | true =>
  refine wp_region_any hmx ?_
  refine zwp (fun i__ => ([(.pointer (some ⟨w.heap.size, 0, none⟩)), (.int .i64 1), (.bool false), (.bool false), (.pointer (some ⟨w.heap.size, 0, none⟩)), (.int .i64 1), (.bool false), (.bool false), (.bool false), (.pointer (some ⟨w.heap.size, 1, none⟩)), (.int .i64 nd), (.bool true), (.bool true), (.bool true), undef, undef, undef, undef, undef, undef, undef, (.bool true), (.bool true), undef, undef, undef, (.bool true), (.bool true), undef, undef, undef, (.bool true), (.bool true), undef, undef, undef, (.bool true)] : List Value).getD i__ undef) (fun V => JH w y w.heap.size n f D ⟨1, nd, li, ro, ta, of, du, he, un⟩ V) (by kernel_rfl) (hJ0.carry (Below.refl _ _).drew) ?_ ?_
  · refine (sqc ?_ (sqc ?_ (sqc ?_ (sqc ?_ (sqc ?_ (sqc ?_ (sqc ?_ (sqc ?_ (sqc ?_ (sqc ?_ (sqc ?_ (sqc ?_ (sqc ?_ (sqc ?_ (sqc ?_ (sqc ?_ (sqc ?_ (sqc ?_ (sqc ?_ (sqc ?_ (sqc ?_ (sqc ?_ (sqc ?_ (sqc ?_ (sqc ?_ (sqc ?_ (sqc ?_ (sqc ?_ (sqc ?_ (sqc ?_ (sqc ?_ (sqc ?_ (sqc ?_ (sqc ?_ (sqc ?_ (sqc ?_ (sqc ?_ trivial)))))))))))))))))))))))))))))))))))))
    · exact zfa rfl trivial _ _ _ _ rfl rfl (fun w hw => faE0 w _ _)
    · exact zld rfl trivial _ _ _ rfl rfl (fun w hw => load_in ((zca hw.bx 0).trans rfl))
    · exact zbo rfl trivial _ _ _ _ _ _ _ rfl rfl rfl (fun w hw => bin_lss _ _ _)
    · exact zmv rfl trivial _ rfl (by kernel_rfl)
    · exact zfa rfl ⟨_, rfl, by kernel_rfl⟩ _ _ _ _ rfl rfl (fun w hw => faE0 w _ _)
    · exact zld rfl ⟨_, rfl, by kernel_rfl⟩ _ _ _ rfl rfl (fun w hw => load_in ((zca hw.bx 0).trans rfl))
    · exact zbo rfl ⟨_, rfl, by kernel_rfl⟩ _ _ _ _ _ _ _ rfl rfl rfl (fun w hw => bin_gtr _ _ _)
    · exact step_pick rfl trivial _ _ _ false rfl (by kernel_rfl) (by kernel_rfl)
    · exact zmv rfl trivial _ rfl (by kernel_rfl)
    · exact zfa rfl ⟨_, rfl, by kernel_rfl⟩ _ _ _ _ rfl rfl (fun w hw => faE1 w _ _)
    · exact zld rfl ⟨_, rfl, by kernel_rfl⟩ _ _ _ rfl rfl (fun w hw => load_in ((zca hw.bx 1).trans rfl))
    · exact zbo rfl ⟨_, rfl, by kernel_rfl⟩ _ _ _ _ _ _ _ rfl rfl rfl (fun w hw => by rw [← h1_0]; exact bin_lss _ _ _)
    · exact step_pick rfl trivial _ _ _ false rfl (by kernel_rfl) (by kernel_rfl)
    · exact zmv rfl trivial _ rfl (by kernel_rfl)
    · exact zsk rfl 13 false 19 (.bool true) rfl rfl (by kernel_rfl) (by intro h; cases h) rfl
    · exact zsk rfl 13 false 19 (.bool true) rfl rfl (by kernel_rfl) (by intro h; cases h) rfl
    · exact zsk rfl 13 false 19 (.bool true) rfl rfl (by kernel_rfl) (by intro h; cases h) rfl
    · exact zsk rfl 13 false 19 (.bool true) rfl rfl (by kernel_rfl) (by intro h; cases h) rfl
    · exact zsk rfl 13 false 19 (.bool true) rfl rfl (by kernel_rfl) (by intro h; cases h) rfl
    · exact zsk rfl 13 false 19 (.bool true) rfl rfl (by kernel_rfl) (by intro h; cases h) rfl
    · exact zsk rfl 13 false 19 (.bool true) rfl rfl (by kernel_rfl) (by intro h; cases h) rfl
    · exact step_pick rfl trivial _ _ _ true rfl (by kernel_rfl) (by kernel_rfl)
    · exact zmv rfl trivial _ rfl (by kernel_rfl)
    · exact zsk rfl 22 false 28 (.bool true) rfl rfl (by kernel_rfl) (by intro h; cases h) rfl
    · exact zsk rfl 22 false 28 (.bool true) rfl rfl (by kernel_rfl) (by intro h; cases h) rfl
    · exact zsk rfl 22 false 28 (.bool true) rfl rfl (by kernel_rfl) (by intro h; cases h) rfl
    · exact step_pick rfl trivial _ _ _ true rfl (by kernel_rfl) (by kernel_rfl)
    · exact zmv rfl trivial _ rfl (by kernel_rfl)
    · exact zsk rfl 27 false 33 (.bool true) rfl rfl (by kernel_rfl) (by intro h; cases h) rfl
    · exact zsk rfl 27 false 33 (.bool true) rfl rfl (by kernel_rfl) (by intro h; cases h) rfl
    · exact zsk rfl 27 false 33 (.bool true) rfl rfl (by kernel_rfl) (by intro h; cases h) rfl
    · exact step_pick rfl trivial _ _ _ true rfl (by kernel_rfl) (by kernel_rfl)
    · exact zmv rfl trivial _ rfl (by kernel_rfl)
    · exact zsk rfl 32 false 38 (.bool true) rfl rfl (by kernel_rfl) (by intro h; cases h) rfl
    · exact zsk rfl 32 false 38 (.bool true) rfl rfl (by kernel_rfl) (by intro h; cases h) rfl
    · exact zsk rfl 32 false 38 (.bool true) rfl rfl (by kernel_rfl) (by intro h; cases h) rfl
    · exact step_pick rfl trivial _ _ _ true rfl (by kernel_rfl) (by kernel_rfl)
  intro W hW
  first | refine hK _ _ ?_ | refine (‹∀ (a : Act) (w : World), Code.wp Try.prog _ _ a w → _›) _ _ ?_ | skip
  simp only [finL, List.getD_cons_zero, List.getD_cons_succ, Nat.zero_add, Nat.reduceAdd, List.setIfInBounds_toArray, List.set_cons_zero, List.set_cons_succ]
  go_wp2
  go_ret
  exact ho_no (by unfold hold dpre; try simp only [h1_0]; rfl) hW.tn
 | false =>
  cases h1_1 : decide (nd ≥ n) with
  | true =>
    refine wp_region_any hmx ?_
    refine zwp (fun i__ => ([(.pointer (some ⟨w.heap.size, 0, none⟩)), (.int .i64 1), (.bool false), (.bool false), (.pointer (some ⟨w.heap.size, 0, none⟩)), (.int .i64 1), (.bool false), (.bool false), (.bool false), (.pointer (some ⟨w.heap.size, 1, none⟩)), (.int .i64 nd), (.bool false), (.bool false), (.bool false), (.pointer (some ⟨w.heap.size, 1, none⟩)), (.int .i64 nd), (.pointer (some ⟨y, 0, none⟩)), (.pointer (some ⟨y, 0, none⟩)), (.pointer (some ⟨y, 0, none⟩)), (.int .i64 n), (.bool true), (.bool true), (.bool true), undef, undef, undef, (.bool true), (.bool true), undef, undef, undef, (.bool true), (.bool true), undef, undef, undef, (.bool true)] : List Value).getD i__ undef) (fun V => JH w y w.heap.size n f D ⟨1, nd, li, ro, ta, of, du, he, un⟩ V) (by kernel_rfl) (hJ0.carry (Below.refl _ _).drew) ?_ ?_
    · refine (sqc ?_ (sqc ?_ (sqc ?_ (sqc ?_ (sqc ?_ (sqc ?_ (sqc ?_ (sqc ?_ (sqc ?_ (sqc ?_ (sqc ?_ (sqc ?_ (sqc ?_ (sqc ?_ (sqc ?_ (sqc ?_ (sqc ?_ (sqc ?_ (sqc ?_ (sqc ?_ (sqc ?_ (sqc ?_ (sqc ?_ (sqc ?_ (sqc ?_ (sqc ?_ (sqc ?_ (sqc ?_ (sqc ?_ (sqc ?_ (sqc ?_ (sqc ?_ (sqc ?_ (sqc ?_ (sqc ?_ (sqc ?_ (sqc ?_ trivial)))))))))))))))))))))))))))))))))))))
      · exact zfa rfl trivial _ _ _ _ rfl rfl (fun w hw => faE0 w _ _)
      · exact zld rfl trivial _ _ _ rfl rfl (fun w hw => load_in ((zca hw.bx 0).trans rfl))
      · exact zbo rfl trivial _ _ _ _ _ _ _ rfl rfl rfl (fun w hw => bin_lss _ _ _)
      · exact zmv rfl trivial _ rfl (by kernel_rfl)
      · exact zfa rfl ⟨_, rfl, by kernel_rfl⟩ _ _ _ _ rfl rfl (fun w hw => faE0 w _ _)
      · exact zld rfl ⟨_, rfl, by kernel_rfl⟩ _ _ _ rfl rfl (fun w hw => load_in ((zca hw.bx 0).trans rfl))
      · exact zbo rfl ⟨_, rfl, by kernel_rfl⟩ _ _ _ _ _ _ _ rfl rfl rfl (fun w hw => bin_gtr _ _ _)
      · exact step_pick rfl trivial _ _ _ false rfl (by kernel_rfl) (by kernel_rfl)
      · exact zmv rfl trivial _ rfl (by kernel_rfl)
      · exact zfa rfl ⟨_, rfl, by kernel_rfl⟩ _ _ _ _ rfl rfl (fun w hw => faE1 w _ _)
      · exact zld rfl ⟨_, rfl, by kernel_rfl⟩ _ _ _ rfl rfl (fun w hw => load_in ((zca hw.bx 1).trans rfl))
      · exact zbo rfl ⟨_, rfl, by kernel_rfl⟩ _ _ _ _ _ _ _ rfl rfl rfl (fun w hw => by rw [← h1_0]; exact bin_lss _ _ _)
      · exact step_pick rfl trivial _ _ _ false rfl (by kernel_rfl) (by kernel_rfl)
      · exact zmv rfl trivial _ rfl (by kernel_rfl)
      · exact zfa rfl ⟨_, rfl, by kernel_rfl⟩ _ _ _ _ rfl rfl (fun w hw => faE1 w _ _)
      · exact zld rfl ⟨_, rfl, by kernel_rfl⟩ _ _ _ rfl rfl (fun w hw => load_in ((zca hw.bx 1).trans rfl))
      · exact zmv rfl ⟨_, rfl, by kernel_rfl⟩ _ rfl (by kernel_rfl)
      · exact znc rfl ⟨_, rfl, by kernel_rfl⟩ _ _ _ rfl rfl rfl
      · exact zfa rfl ⟨_, rfl, by kernel_rfl⟩ _ _ _ _ rfl rfl (fun w hw => faD0 w _ _)
      · exact zld rfl ⟨_, rfl, by kernel_rfl⟩ _ _ _ rfl rfl (fun w hw => load_in hw.de.c0)
      · exact zbo rfl ⟨_, rfl, by kernel_rfl⟩ _ _ _ _ _ _ _ rfl rfl rfl (fun w hw => by rw [← h1_1]; exact bin_geq _ _ _)
      · exact step_pick rfl trivial _ _ _ false rfl (by kernel_rfl) (by kernel_rfl)
      · exact zmv rfl trivial _ rfl (by kernel_rfl)
      · exact zsk rfl 22 false 28 (.bool true) rfl rfl (by kernel_rfl) (by intro h; cases h) rfl
      · exact zsk rfl 22 false 28 (.bool true) rfl rfl (by kernel_rfl) (by intro h; cases h) rfl
      · exact zsk rfl 22 false 28 (.bool true) rfl rfl (by kernel_rfl) (by intro h; cases h) rfl
      · exact step_pick rfl trivial _ _ _ true rfl (by kernel_rfl) (by kernel_rfl)
      · exact zmv rfl trivial _ rfl (by kernel_rfl)
      · exact zsk rfl 27 false 33 (.bool true) rfl rfl (by kernel_rfl) (by intro h; cases h) rfl
      · exact zsk rfl 27 false 33 (.bool true) rfl rfl (by kernel_rfl) (by intro h; cases h) rfl
      · exact zsk rfl 27 false 33 (.bool true) rfl rfl (by kernel_rfl) (by intro h; cases h) rfl
      · exact step_pick rfl trivial _ _ _ true rfl (by kernel_rfl) (by kernel_rfl)
      · exact zmv rfl trivial _ rfl (by kernel_rfl)
      · exact zsk rfl 32 false 38 (.bool true) rfl rfl (by kernel_rfl) (by intro h; cases h) rfl
      · exact zsk rfl 32 false 38 (.bool true) rfl rfl (by kernel_rfl) (by intro h; cases h) rfl
      · exact zsk rfl 32 false 38 (.bool true) rfl rfl (by kernel_rfl) (by intro h; cases h) rfl
      · exact step_pick rfl trivial _ _ _ true rfl (by kernel_rfl) (by kernel_rfl)
    intro W hW
    first | refine hK _ _ ?_ | refine (‹∀ (a : Act) (w : World), Code.wp Try.prog _ _ a w → _›) _ _ ?_ | skip
    simp only [finL, List.getD_cons_zero, List.getD_cons_succ, Nat.zero_add, Nat.reduceAdd, List.setIfInBounds_toArray, List.set_cons_zero, List.set_cons_succ]
    go_wp2
    go_ret
    exact ho_no (by unfold hold dpre; try simp only [h1_0]; try simp only [h1_1]; rfl) hW.tn
  | false =>
    cases h1_2 : decide (li < 1) with
    | true =>
      refine wp_region_any hmx ?_
      refine zwp (fun i__ => ([(.pointer (some ⟨w.heap.size, 0, none⟩)), (.int .i64 1), (.bool false), (.bool false), (.pointer (some ⟨w.heap.size, 0, none⟩)), (.int .i64 1), (.bool false), (.bool false), (.bool false), (.pointer (some ⟨w.heap.size, 1, none⟩)), (.int .i64 nd), (.bool false), (.bool false), (.bool false), (.pointer (some ⟨w.heap.size, 1, none⟩)), (.int .i64 nd), (.pointer (some ⟨y, 0, none⟩)), (.pointer (some ⟨y, 0, none⟩)), (.pointer (some ⟨y, 0, none⟩)), (.int .i64 n), (.bool false), (.bool false), (.bool false), (.pointer (some ⟨w.heap.size, 2, none⟩)), (.int .i64 li), (.bool true), (.bool true), (.bool true), undef, undef, undef, (.bool true), (.bool true), undef, undef, undef, (.bool true)] : List Value).getD i__ undef) (fun V => JH w y w.heap.size n f D ⟨1, nd, li, ro, ta, of, du, he, un⟩ V) (by kernel_rfl) (hJ0.carry (Below.refl _ _).drew) ?_ ?_
      · refine (sqc ?_ (sqc ?_ (sqc ?_ (sqc ?_ (sqc ?_ (sqc ?_ (sqc ?_ (sqc ?_ (sqc ?_ (sqc ?_ (sqc ?_ (sqc ?_ (sqc ?_ (sqc ?_ (sqc ?_ (sqc ?_ (sqc ?_ (sqc ?_ (sqc ?_ (sqc ?_ (sqc ?_ (sqc ?_ (sqc ?_ (sqc ?_ (sqc ?_ (sqc ?_ (sqc ?_ (sqc ?_ (sqc ?_ (sqc ?_ (sqc ?_ (sqc ?_ (sqc ?_ (sqc ?_ (sqc ?_ (sqc ?_ (sqc ?_ trivial)))))))))))))))))))))))))))))))))))))
        · exact zfa rfl trivial _ _ _ _ rfl rfl (fun w hw => faE0 w _ _)
        · exact zld rfl trivial _ _ _ rfl rfl (fun w hw => load_in ((zca hw.bx 0).trans rfl))
        · exact zbo rfl trivial _ _ _ _ _ _ _ rfl rfl rfl (fun w hw => bin_lss _ _ _)
        · exact zmv rfl trivial _ rfl (by kernel_rfl)
        · exact zfa rfl ⟨_, rfl, by kernel_rfl⟩ _ _ _ _ rfl rfl (fun w hw => faE0 w _ _)
        · exact zld rfl ⟨_, rfl, by kernel_rfl⟩ _ _ _ rfl rfl (fun w hw => load_in ((zca hw.bx 0).trans rfl))
        · exact zbo rfl ⟨_, rfl, by kernel_rfl⟩ _ _ _ _ _ _ _ rfl rfl rfl (fun w hw => bin_gtr _ _ _)
        · exact step_pick rfl trivial _ _ _ false rfl (by kernel_rfl) (by kernel_rfl)
        · exact zmv rfl trivial _ rfl (by kernel_rfl)
        · exact zfa rfl ⟨_, rfl, by kernel_rfl⟩ _ _ _ _ rfl rfl (fun w hw => faE1 w _ _)
        · exact zld rfl ⟨_, rfl, by kernel_rfl⟩ _ _ _ rfl rfl (fun w hw => load_in ((zca hw.bx 1).trans rfl))
        · exact zbo rfl ⟨_, rfl, by kernel_rfl⟩ _ _ _ _ _ _ _ rfl rfl rfl (fun w hw => by rw [← h1_0]; exact bin_lss _ _ _)
        · exact step_pick rfl trivial _ _ _ false rfl (by kernel_rfl) (by kernel_rfl)
        · exact zmv rfl trivial _ rfl (by kernel_rfl)
        · exact zfa rfl ⟨_, rfl, by kernel_rfl⟩ _ _ _ _ rfl rfl (fun w hw => faE1 w _ _)
        · exact zld rfl ⟨_, rfl, by kernel_rfl⟩ _ _ _ rfl rfl (fun w hw => load_in ((zca hw.bx 1).trans rfl))
        · exact zmv rfl ⟨_, rfl, by kernel_rfl⟩ _ rfl (by kernel_rfl)
        · exact znc rfl ⟨_, rfl, by kernel_rfl⟩ _ _ _ rfl rfl rfl
        · exact zfa rfl ⟨_, rfl, by kernel_rfl⟩ _ _ _ _ rfl rfl (fun w hw => faD0 w _ _)
        · exact zld rfl ⟨_, rfl, by kernel_rfl⟩ _ _ _ rfl rfl (fun w hw => load_in hw.de.c0)
        · exact zbo rfl ⟨_, rfl, by kernel_rfl⟩ _ _ _ _ _ _ _ rfl rfl rfl (fun w hw => by rw [← h1_1]; exact bin_geq _ _ _)
        · exact step_pick rfl trivial _ _ _ false rfl (by kernel_rfl) (by kernel_rfl)
        · exact zmv rfl trivial _ rfl (by kernel_rfl)
        · exact zfa rfl ⟨_, rfl, by kernel_rfl⟩ _ _ _ _ rfl rfl (fun w hw => faE2 w _ _)
        · exact zld rfl ⟨_, rfl, by kernel_rfl⟩ _ _ _ rfl rfl (fun w hw => load_in ((zca hw.bx 2).trans rfl))
        · exact zbo rfl ⟨_, rfl, by kernel_rfl⟩ _ _ _ _ _ _ _ rfl rfl rfl (fun w hw => by rw [← h1_2]; exact bin_lss _ _ _)
        · exact step_pick rfl trivial _ _ _ false rfl (by kernel_rfl) (by kernel_rfl)
        · exact zmv rfl trivial _ rfl (by kernel_rfl)
        · exact zsk rfl 27 false 33 (.bool true) rfl rfl (by kernel_rfl) (by intro h; cases h) rfl
        · exact zsk rfl 27 false 33 (.bool true) rfl rfl (by kernel_rfl) (by intro h; cases h) rfl
        · exact zsk rfl 27 false 33 (.bool true) rfl rfl (by kernel_rfl) (by intro h; cases h) rfl
        · exact step_pick rfl trivial _ _ _ true rfl (by kernel_rfl) (by kernel_rfl)
        · exact zmv rfl trivial _ rfl (by kernel_rfl)
        · exact zsk rfl 32 false 38 (.bool true) rfl rfl (by kernel_rfl) (by intro h; cases h) rfl
        · exact zsk rfl 32 false 38 (.bool true) rfl rfl (by kernel_rfl) (by intro h; cases h) rfl
        · exact zsk rfl 32 false 38 (.bool true) rfl rfl (by kernel_rfl) (by intro h; cases h) rfl
        · exact step_pick rfl trivial _ _ _ true rfl (by kernel_rfl) (by kernel_rfl)
      intro W hW
      first | refine hK _ _ ?_ | refine (‹∀ (a : Act) (w : World), Code.wp Try.prog _ _ a w → _›) _ _ ?_ | skip
      simp only [finL, List.getD_cons_zero, List.getD_cons_succ, Nat.zero_add, Nat.reduceAdd, List.setIfInBounds_toArray, List.set_cons_zero, List.set_cons_succ]
      go_wp2
      go_ret
      exact ho_no (by unfold hold dpre; try simp only [h1_0]; try simp only [h1_1]; try simp only [h1_2]; rfl) hW.tn
    | false =>
      cases h1_3 : decide (li > 1073741824) with
      | true =>
        refine wp_region_any hmx ?_
        refine zwp (fun i__ => ([(.pointer (some ⟨w.heap.size, 0, none⟩)), (.int .i64 1), (.bool false), (.bool false), (.pointer (some ⟨w.heap.size, 0, none⟩)), (.int .i64 1), (.bool false), (.bool false), (.bool false), (.pointer (some ⟨w.heap.size, 1, none⟩)), (.int .i64 nd), (.bool false), (.bool false), (.bool false), (.pointer (some ⟨w.heap.size, 1, none⟩)), (.int .i64 nd), (.pointer (some ⟨y, 0, none⟩)), (.pointer (some ⟨y, 0, none⟩)), (.pointer (some ⟨y, 0, none⟩)), (.int .i64 n), (.bool false), (.bool false), (.bool false), (.pointer (some ⟨w.heap.size, 2, none⟩)), (.int .i64 li), (.bool false), (.bool false), (.bool false), (.pointer (some ⟨w.heap.size, 2, none⟩)), (.int .i64 li), (.bool true), (.bool true), (.bool true), undef, undef, undef, (.bool true)] : List Value).getD i__ undef) (fun V => JH w y w.heap.size n f D ⟨1, nd, li, ro, ta, of, du, he, un⟩ V) (by kernel_rfl) (hJ0.carry (Below.refl _ _).drew) ?_ ?_
        · refine (sqc ?_ (sqc ?_ (sqc ?_ (sqc ?_ (sqc ?_ (sqc ?_ (sqc ?_ (sqc ?_ (sqc ?_ (sqc ?_ (sqc ?_ (sqc ?_ (sqc ?_ (sqc ?_ (sqc ?_ (sqc ?_ (sqc ?_ (sqc ?_ (sqc ?_ (sqc ?_ (sqc ?_ (sqc ?_ (sqc ?_ (sqc ?_ (sqc ?_ (sqc ?_ (sqc ?_ (sqc ?_ (sqc ?_ (sqc ?_ (sqc ?_ (sqc ?_ (sqc ?_ (sqc ?_ (sqc ?_ (sqc ?_ (sqc ?_ trivial)))))))))))))))))))))))))))))))))))))
          · exact zfa rfl trivial _ _ _ _ rfl rfl (fun w hw => faE0 w _ _)
          · exact zld rfl trivial _ _ _ rfl rfl (fun w hw => load_in ((zca hw.bx 0).trans rfl))
          · exact zbo rfl trivial _ _ _ _ _ _ _ rfl rfl rfl (fun w hw => bin_lss _ _ _)
          · exact zmv rfl trivial _ rfl (by kernel_rfl)
          · exact zfa rfl ⟨_, rfl, by kernel_rfl⟩ _ _ _ _ rfl rfl (fun w hw => faE0 w _ _)
          · exact zld rfl ⟨_, rfl, by kernel_rfl⟩ _ _ _ rfl rfl (fun w hw => load_in ((zca hw.bx 0).trans rfl))
          · exact zbo rfl ⟨_, rfl, by kernel_rfl⟩ _ _ _ _ _ _ _ rfl rfl rfl (fun w hw => bin_gtr _ _ _)
          · exact step_pick rfl trivial _ _ _ false rfl (by kernel_rfl) (by kernel_rfl)
          · exact zmv rfl trivial _ rfl (by kernel_rfl)
          · exact zfa rfl ⟨_, rfl, by kernel_rfl⟩ _ _ _ _ rfl rfl (fun w hw => faE1 w _ _)
          · exact zld rfl ⟨_, rfl, by kernel_rfl⟩ _ _ _ rfl rfl (fun w hw => load_in ((zca hw.bx 1).trans rfl))
          · exact zbo rfl ⟨_, rfl, by kernel_rfl⟩ _ _ _ _ _ _ _ rfl rfl rfl (fun w hw => by rw [← h1_0]; exact bin_lss _ _ _)
          · exact step_pick rfl trivial _ _ _ false rfl (by kernel_rfl) (by kernel_rfl)
          · exact zmv rfl trivial _ rfl (by kernel_rfl)
          · exact zfa rfl ⟨_, rfl, by kernel_rfl⟩ _ _ _ _ rfl rfl (fun w hw => faE1 w _ _)
          · exact zld rfl ⟨_, rfl, by kernel_rfl⟩ _ _ _ rfl rfl (fun w hw => load_in ((zca hw.bx 1).trans rfl))
          · exact zmv rfl ⟨_, rfl, by kernel_rfl⟩ _ rfl (by kernel_rfl)
          · exact znc rfl ⟨_, rfl, by kernel_rfl⟩ _ _ _ rfl rfl rfl
          · exact zfa rfl ⟨_, rfl, by kernel_rfl⟩ _ _ _ _ rfl rfl (fun w hw => faD0 w _ _)
          · exact zld rfl ⟨_, rfl, by kernel_rfl⟩ _ _ _ rfl rfl (fun w hw => load_in hw.de.c0)
          · exact zbo rfl ⟨_, rfl, by kernel_rfl⟩ _ _ _ _ _ _ _ rfl rfl rfl (fun w hw => by rw [← h1_1]; exact bin_geq _ _ _)
          · exact step_pick rfl trivial _ _ _ false rfl (by kernel_rfl) (by kernel_rfl)
          · exact zmv rfl trivial _ rfl (by kernel_rfl)
          · exact zfa rfl ⟨_, rfl, by kernel_rfl⟩ _ _ _ _ rfl rfl (fun w hw => faE2 w _ _)
          · exact zld rfl ⟨_, rfl, by kernel_rfl⟩ _ _ _ rfl rfl (fun w hw => load_in ((zca hw.bx 2).trans rfl))
          · exact zbo rfl ⟨_, rfl, by kernel_rfl⟩ _ _ _ _ _ _ _ rfl rfl rfl (fun w hw => by rw [← h1_2]; exact bin_lss _ _ _)
          · exact step_pick rfl trivial _ _ _ false rfl (by kernel_rfl) (by kernel_rfl)
          · exact zmv rfl trivial _ rfl (by kernel_rfl)
          · exact zfa rfl ⟨_, rfl, by kernel_rfl⟩ _ _ _ _ rfl rfl (fun w hw => faE2 w _ _)
          · exact zld rfl ⟨_, rfl, by kernel_rfl⟩ _ _ _ rfl rfl (fun w hw => load_in ((zca hw.bx 2).trans rfl))
          · exact zbo rfl ⟨_, rfl, by kernel_rfl⟩ _ _ _ _ _ _ _ rfl rfl rfl (fun w hw => by rw [← h1_3]; exact bin_gtr _ _ _)
          · exact step_pick rfl trivial _ _ _ false rfl (by kernel_rfl) (by kernel_rfl)
          · exact zmv rfl trivial _ rfl (by kernel_rfl)
          · exact zsk rfl 32 false 38 (.bool true) rfl rfl (by kernel_rfl) (by intro h; cases h) rfl
          · exact zsk rfl 32 false 38 (.bool true) rfl rfl (by kernel_rfl) (by intro h; cases h) rfl
          · exact zsk rfl 32 false 38 (.bool true) rfl rfl (by kernel_rfl) (by intro h; cases h) rfl
          · exact step_pick rfl trivial _ _ _ true rfl (by kernel_rfl) (by kernel_rfl)
        intro W hW
        first | refine hK _ _ ?_ | refine (‹∀ (a : Act) (w : World), Code.wp Try.prog _ _ a w → _›) _ _ ?_ | skip
        simp only [finL, List.getD_cons_zero, List.getD_cons_succ, Nat.zero_add, Nat.reduceAdd, List.setIfInBounds_toArray, List.set_cons_zero, List.set_cons_succ]
        go_wp2
        go_ret
        exact ho_no (by unfold hold dpre; try simp only [h1_0]; try simp only [h1_1]; try simp only [h1_2]; try simp only [h1_3]; rfl) hW.tn
      | false =>
        cases h1_4 : eqEv ⟨1, nd, li, ro, ta, of, du, he, un⟩ (bareE ⟨1, nd, li, ro, ta, of, du, he, un⟩) with
        | true =>
          refine wp_region_any hmx ?_
          refine zwp (fun i__ => ([(.pointer (some ⟨w.heap.size, 0, none⟩)), (.int .i64 1), (.bool false), (.bool false), (.pointer (some ⟨w.heap.size, 0, none⟩)), (.int .i64 1), (.bool false), (.bool false), (.bool false), (.pointer (some ⟨w.heap.size, 1, none⟩)), (.int .i64 nd), (.bool false), (.bool false), (.bool false), (.pointer (some ⟨w.heap.size, 1, none⟩)), (.int .i64 nd), (.pointer (some ⟨y, 0, none⟩)), (.pointer (some ⟨y, 0, none⟩)), (.pointer (some ⟨y, 0, none⟩)), (.int .i64 n), (.bool false), (.bool false), (.bool false), (.pointer (some ⟨w.heap.size, 2, none⟩)), (.int .i64 li), (.bool false), (.bool false), (.bool false), (.pointer (some ⟨w.heap.size, 2, none⟩)), (.int .i64 li), (.bool false), (.bool false), (.bool false), (evV ⟨1, nd, li, ro, ta, of, du, he, un⟩), (.bool true), (.bool false), (.bool false)] : List Value).getD i__ undef) (fun V => JH w y w.heap.size n f D ⟨1, nd, li, ro, ta, of, du, he, un⟩ V) (by kernel_rfl) (hJ0.carry (Below.refl _ _).drew) ?_ ?_
          · refine (sqc ?_ (sqc ?_ (sqc ?_ (sqc ?_ (sqc ?_ (sqc ?_ (sqc ?_ (sqc ?_ (sqc ?_ (sqc ?_ (sqc ?_ (sqc ?_ (sqc ?_ (sqc ?_ (sqc ?_ (sqc ?_ (sqc ?_ (sqc ?_ (sqc ?_ (sqc ?_ (sqc ?_ (sqc ?_ (sqc ?_ (sqc ?_ (sqc ?_ (sqc ?_ (sqc ?_ (sqc ?_ (sqc ?_ (sqc ?_ (sqc ?_ (sqc ?_ (sqc ?_ (sqc ?_ (sqc ?_ (sqc ?_ (sqc ?_ trivial)))))))))))))))))))))))))))))))))))))
            · exact zfa rfl trivial _ _ _ _ rfl rfl (fun w hw => faE0 w _ _)
            · exact zld rfl trivial _ _ _ rfl rfl (fun w hw => load_in ((zca hw.bx 0).trans rfl))
            · exact zbo rfl trivial _ _ _ _ _ _ _ rfl rfl rfl (fun w hw => bin_lss _ _ _)
            · exact zmv rfl trivial _ rfl (by kernel_rfl)
            · exact zfa rfl ⟨_, rfl, by kernel_rfl⟩ _ _ _ _ rfl rfl (fun w hw => faE0 w _ _)
            · exact zld rfl ⟨_, rfl, by kernel_rfl⟩ _ _ _ rfl rfl (fun w hw => load_in ((zca hw.bx 0).trans rfl))
            · exact zbo rfl ⟨_, rfl, by kernel_rfl⟩ _ _ _ _ _ _ _ rfl rfl rfl (fun w hw => bin_gtr _ _ _)
            · exact step_pick rfl trivial _ _ _ false rfl (by kernel_rfl) (by kernel_rfl)
            · exact zmv rfl trivial _ rfl (by kernel_rfl)
            · exact zfa rfl ⟨_, rfl, by kernel_rfl⟩ _ _ _ _ rfl rfl (fun w hw => faE1 w _ _)
            · exact zld rfl ⟨_, rfl, by kernel_rfl⟩ _ _ _ rfl rfl (fun w hw => load_in ((zca hw.bx 1).trans rfl))
            · exact zbo rfl ⟨_, rfl, by kernel_rfl⟩ _ _ _ _ _ _ _ rfl rfl rfl (fun w hw => by rw [← h1_0]; exact bin_lss _ _ _)
            · exact step_pick rfl trivial _ _ _ false rfl (by kernel_rfl) (by kernel_rfl)
            · exact zmv rfl trivial _ rfl (by kernel_rfl)
            · exact zfa rfl ⟨_, rfl, by kernel_rfl⟩ _ _ _ _ rfl rfl (fun w hw => faE1 w _ _)
            · exact zld rfl ⟨_, rfl, by kernel_rfl⟩ _ _ _ rfl rfl (fun w hw => load_in ((zca hw.bx 1).trans rfl))
            · exact zmv rfl ⟨_, rfl, by kernel_rfl⟩ _ rfl (by kernel_rfl)
            · exact znc rfl ⟨_, rfl, by kernel_rfl⟩ _ _ _ rfl rfl rfl
            · exact zfa rfl ⟨_, rfl, by kernel_rfl⟩ _ _ _ _ rfl rfl (fun w hw => faD0 w _ _)
            · exact zld rfl ⟨_, rfl, by kernel_rfl⟩ _ _ _ rfl rfl (fun w hw => load_in hw.de.c0)
            · exact zbo rfl ⟨_, rfl, by kernel_rfl⟩ _ _ _ _ _ _ _ rfl rfl rfl (fun w hw => by rw [← h1_1]; exact bin_geq _ _ _)
            · exact step_pick rfl trivial _ _ _ false rfl (by kernel_rfl) (by kernel_rfl)
            · exact zmv rfl trivial _ rfl (by kernel_rfl)
            · exact zfa rfl ⟨_, rfl, by kernel_rfl⟩ _ _ _ _ rfl rfl (fun w hw => faE2 w _ _)
            · exact zld rfl ⟨_, rfl, by kernel_rfl⟩ _ _ _ rfl rfl (fun w hw => load_in ((zca hw.bx 2).trans rfl))
            · exact zbo rfl ⟨_, rfl, by kernel_rfl⟩ _ _ _ _ _ _ _ rfl rfl rfl (fun w hw => by rw [← h1_2]; exact bin_lss _ _ _)
            · exact step_pick rfl trivial _ _ _ false rfl (by kernel_rfl) (by kernel_rfl)
            · exact zmv rfl trivial _ rfl (by kernel_rfl)
            · exact zfa rfl ⟨_, rfl, by kernel_rfl⟩ _ _ _ _ rfl rfl (fun w hw => faE2 w _ _)
            · exact zld rfl ⟨_, rfl, by kernel_rfl⟩ _ _ _ rfl rfl (fun w hw => load_in ((zca hw.bx 2).trans rfl))
            · exact zbo rfl ⟨_, rfl, by kernel_rfl⟩ _ _ _ _ _ _ _ rfl rfl rfl (fun w hw => by rw [← h1_3]; exact bin_gtr _ _ _)
            · exact step_pick rfl trivial _ _ _ false rfl (by kernel_rfl) (by kernel_rfl)
            · exact zmv rfl trivial _ rfl (by kernel_rfl)
            · exact zld rfl ⟨_, rfl, by kernel_rfl⟩ _ _ _ rfl rfl (fun w hw => load_bx hw.bx)
            · exact zsc rfl ⟨_, rfl, by kernel_rfl⟩ 17 _ _ [(evV ⟨1, nd, li, ro, ta, of, du, he, un⟩)] rfl (by kernel_rfl) (enters_of Try.func17 (by kernel_rfl) rfl) (fun w hw => (rbare_any ⟨1, nd, li, ro, ta, of, du, he, un⟩ hhe hun w).mono (by rintro e w' ⟨rfl, hb⟩; exact ⟨congrArg (fun z => Ending.returned (Value.bool z)) h1_4, hw.carry hb⟩))
            · exact step_unOp rfl ⟨_, rfl, by kernel_rfl⟩ _ _ _ _ rfl rfl (fun w hw => rfl)
            · exact step_pick rfl trivial _ _ _ false rfl (by kernel_rfl) (by kernel_rfl)
          intro W hW
          first | refine hK _ _ ?_ | refine (‹∀ (a : Act) (w : World), Code.wp Try.prog _ _ a w → _›) _ _ ?_ | skip
          simp only [finL, List.getD_cons_zero, List.getD_cons_succ, Nat.zero_add, Nat.reduceAdd, List.setIfInBounds_toArray, List.set_cons_zero, List.set_cons_succ]
          obtain ⟨W1, rfl⟩ : ∃ V, V = W := ⟨_, rfl⟩
          have hJ1 := hW
          clear hW
          have HP : dpre n ⟨1, nd, li, ro, ta, of, du, he, un⟩ = false := by unfold dpre; try simp only [h1_0]; try simp only [h1_1]; try simp only [h1_2]; try simp only [h1_3]; try simp only [h1_4]; rfl
          have hnd : 0 ≤ nd ∧ nd < n := by
            have q0 := of_decide_eq_false h1_0
            have q1 := of_decide_eq_false h1_1
            omega
          obtain ⟨m, hmx2⟩ := Int.eq_ofNat_of_zero_le hnd.1
          have HX : Hid (nd = (m : Int)) := hmx2
          have hml : m < 100 := by omega
          obtain ⟨u, hm⟩ : ∃ u, D.ds[m]? = some u := ⟨_, List.getElem?_eq_getElem (by rw [h.ln]; omega)⟩
          clear hmx2 hnd
          go_wp2
          refine wp_region_any hmx ?_
          refine zwp (fun i__ => ([(.pointer (some ⟨y, 0, none⟩)), (.pointer (some ⟨w.heap.size, 1, none⟩)), (.int .i64 nd), (.pointer (some ⟨y, 0, none⟩)), (.pointer (some ⟨y, 2, none⟩)), (.pointer (some ⟨y, 2 + m * 6, none⟩)), (.pointer (some ⟨y, 2 + m * 6, none⟩))] : List Value).getD i__ undef) (fun V => JH w y w.heap.size n f D ⟨1, nd, li, ro, ta, of, du, he, un⟩ V) (by kernel_rfl) (hJ1.carry (Below.refl _ _).drew) ?_ ?_
          · refine (sqc ?_ (sqc ?_ (sqc ?_ (sqc ?_ (sqc ?_ (sqc ?_ (sqc ?_ trivial)))))))
            · exact zmv rfl trivial _ rfl (by kernel_rfl)
            · exact zfa rfl trivial _ _ _ _ rfl rfl (fun w hw => faE1 w _ _)
            · exact zld rfl trivial _ _ _ rfl rfl (fun w hw => load_in ((zca hw.bx 1).trans rfl))
            · exact znc rfl trivial _ _ _ rfl rfl rfl
            · exact zfa rfl trivial _ _ _ _ rfl rfl (fun w hw => faD2 w _ _)
            · exact zia rfl trivial _ _ _ _ _ rfl rfl rfl (fun w hw => by rw [HX.out]; exact idx_d y m hml w)
            · exact zas rfl trivial _ rfl (by kernel_rfl) (fun _ h => h)
          intro W hW
          first | refine hK _ _ ?_ | refine (‹∀ (a : Act) (w : World), Code.wp Try.prog _ _ a w → _›) _ _ ?_ | skip
          simp only [finL, List.getD_cons_zero, List.getD_cons_succ, Nat.zero_add, Nat.reduceAdd, List.setIfInBounds_toArray, List.set_cons_zero, List.set_cons_succ]
          obtain ⟨W3, rfl⟩ : ∃ V, V = W := ⟨_, rfl⟩
          have hJ3 := hW
          clear hW
          go_wp2
          cases h4_0 : D.rb with
          | true =>
            cases h4_1 : (nd != D.c.nd) with
            | true =>
              refine wp_region_any hmx ?_
              refine zwp (fun i__ => ([(.pointer (some ⟨y, 0, none⟩)), (.pointer (some ⟨y, 0, none⟩)), (.pointer (some ⟨y, 602, none⟩)), (.bool true), (.bool true), (.pointer (some ⟨w.heap.size, 1, none⟩)), (.int .i64 nd), (.pointer (some ⟨y, 0, none⟩)), (.pointer (some ⟨y, 0, none⟩)), (.pointer (some ⟨y, 603, none⟩)), (.pointer (some ⟨y, 604, none⟩)), (.int .i64 D.c.nd), (.bool true), (.bool true), undef, undef, undef, undef, undef, undef, undef, undef, (.bool true), (.bool true), (.bool true), undef, undef, undef, undef, undef, undef, undef, undef, undef, undef, (.bool true)] : List Value).getD i__ undef) (fun V => JH w y w.heap.size n f D ⟨1, nd, li, ro, ta, of, du, he, un⟩ V) (by kernel_rfl) (hJ3.carry (Below.refl _ _).drew) ?_ ?_
              · refine (sqc ?_ (sqc ?_ (sqc ?_ (sqc ?_ (sqc ?_ (sqc ?_ (sqc ?_ (sqc ?_ (sqc ?_ (sqc ?_ (sqc ?_ (sqc ?_ (sqc ?_ (sqc ?_ (sqc ?_ (sqc ?_ (sqc ?_ (sqc ?_ (sqc ?_ (sqc ?_ (sqc ?_ (sqc ?_ (sqc ?_ (sqc ?_ (sqc ?_ (sqc ?_ (sqc ?_ (sqc ?_ (sqc ?_ (sqc ?_ (sqc ?_ (sqc ?_ (sqc ?_ (sqc ?_ (sqc ?_ (sqc ?_ trivial))))))))))))))))))))))))))))))))))))
                · exact zmv rfl trivial _ rfl (by kernel_rfl)
                · exact znc rfl trivial _ _ _ rfl rfl rfl
                · exact zfa rfl trivial _ _ _ _ rfl rfl (fun w hw => faD3 w _ _)
                · exact zld rfl trivial _ _ _ rfl rfl (fun w hw => by rw [← h4_0]; exact load_bo hw.de.crb)
                · exact zmv rfl trivial _ rfl (by kernel_rfl)
                · exact zfa rfl ⟨_, rfl, by kernel_rfl⟩ _ _ _ _ rfl rfl (fun w hw => faE1 w _ _)
                · exact zld rfl ⟨_, rfl, by kernel_rfl⟩ _ _ _ rfl rfl (fun w hw => load_in ((zca hw.bx 1).trans rfl))
                · exact zmv rfl ⟨_, rfl, by kernel_rfl⟩ _ rfl (by kernel_rfl)
                · exact znc rfl ⟨_, rfl, by kernel_rfl⟩ _ _ _ rfl rfl rfl
                · exact zfa rfl ⟨_, rfl, by kernel_rfl⟩ _ _ _ _ rfl rfl (fun w hw => faD4 w _ _)
                · exact zfa rfl ⟨_, rfl, by kernel_rfl⟩ _ _ _ _ rfl rfl (fun w hw => faE1 w _ _)
                · exact zld rfl ⟨_, rfl, by kernel_rfl⟩ _ _ _ rfl rfl (fun w hw => load_in (hw.de.cc (j := 1) (by decide) rfl))
                · exact zbo rfl ⟨_, rfl, by kernel_rfl⟩ _ _ _ _ _ _ _ rfl rfl rfl (fun w hw => by rw [← h4_1]; exact bin_neq _ _ _)
                · exact zmv rfl ⟨_, rfl, by kernel_rfl⟩ _ rfl (by kernel_rfl)
                · exact zsk rfl 13 false 62 (.bool true) rfl rfl (by kernel_rfl) (by intro h; cases h) rfl
                · exact zsk rfl 13 false 62 (.bool true) rfl rfl (by kernel_rfl) (by intro h; cases h) rfl
                · exact zsk rfl 13 false 62 (.bool true) rfl rfl (by kernel_rfl) (by intro h; cases h) rfl
                · exact zsk rfl 13 false 62 (.bool true) rfl rfl (by kernel_rfl) (by intro h; cases h) rfl
                · exact zsk rfl 17 true 66 undef rfl rfl (by kernel_rfl) (by intro h; cases h) rfl
                · exact zsk rfl 17 true 66 undef rfl rfl (by kernel_rfl) (by intro h; cases h) rfl
                · exact zsk rfl 17 true 66 undef rfl rfl (by kernel_rfl) (by intro h; cases h) rfl
                · exact zsk rfl 13 false 62 (.bool true) rfl rfl (by kernel_rfl) (by intro h; cases h) rfl
                · exact step_pick rfl ⟨_, rfl, by kernel_rfl⟩ _ _ _ true rfl (by kernel_rfl) (by kernel_rfl)
                · exact step_pick rfl trivial _ _ _ true rfl (by kernel_rfl) (by kernel_rfl)
                · exact zmv rfl trivial _ rfl (by kernel_rfl)
                · exact zsk rfl 24 false 73 (.bool true) rfl rfl (by kernel_rfl) (by intro h; cases h) rfl
                · exact zsk rfl 24 false 73 (.bool true) rfl rfl (by kernel_rfl) (by intro h; cases h) rfl
                · exact zsk rfl 24 false 73 (.bool true) rfl rfl (by kernel_rfl) (by intro h; cases h) rfl
                · exact zsk rfl 24 false 73 (.bool true) rfl rfl (by kernel_rfl) (by intro h; cases h) rfl
                · exact zsk rfl 24 false 73 (.bool true) rfl rfl (by kernel_rfl) (by intro h; cases h) rfl
                · exact zsk rfl 24 false 73 (.bool true) rfl rfl (by kernel_rfl) (by intro h; cases h) rfl
                · exact zsk rfl 30 true 79 undef rfl rfl (by kernel_rfl) (by intro h; cases h) rfl
                · exact zsk rfl 30 true 79 undef rfl rfl (by kernel_rfl) (by intro h; cases h) rfl
                · exact zsk rfl 30 true 79 undef rfl rfl (by kernel_rfl) (by intro h; cases h) rfl
                · exact zsk rfl 24 false 73 (.bool true) rfl rfl (by kernel_rfl) (by intro h; cases h) rfl
                · exact step_pick rfl trivial _ _ _ true rfl (by kernel_rfl) (by kernel_rfl)
              intro W hW
              first | refine hK _ _ ?_ | refine (‹∀ (a : Act) (w : World), Code.wp Try.prog _ _ a w → _›) _ _ ?_ | skip
              simp only [finL, List.getD_cons_zero, List.getD_cons_succ, Nat.zero_add, Nat.reduceAdd, List.setIfInBounds_toArray, List.set_cons_zero, List.set_cons_succ]
              go_wp2
              go_ret
              exact ho_no (by unfold hold; rw [HP]; unfold rwbad; try simp only [h4_0]; try simp only [h4_1]; rfl) hW.tn
            | false =>
              refine wp_region_any hmx ?_
              refine zwp (fun i__ => ([(.pointer (some ⟨y, 0, none⟩)), (.pointer (some ⟨y, 0, none⟩)), (.pointer (some ⟨y, 602, none⟩)), (.bool true), (.bool true), (.pointer (some ⟨w.heap.size, 1, none⟩)), (.int .i64 nd), (.pointer (some ⟨y, 0, none⟩)), (.pointer (some ⟨y, 0, none⟩)), (.pointer (some ⟨y, 603, none⟩)), (.pointer (some ⟨y, 604, none⟩)), (.int .i64 D.c.nd), (.bool false), (.bool false), (.pointer (some ⟨w.heap.size, 0, none⟩)), (.int .i64 1), (.bool true), (.bool true), (.pointer (some ⟨w.heap.size, 0, none⟩)), (.int .i64 1), (.bool true), (.bool true), (.bool true), (.bool true), (.bool true), undef, undef, undef, undef, undef, undef, undef, undef, undef, undef, (.bool true)] : List Value).getD i__ undef) (fun V => JH w y w.heap.size n f D ⟨1, nd, li, ro, ta, of, du, he, un⟩ V) (by kernel_rfl) (hJ3.carry (Below.refl _ _).drew) ?_ ?_
              · refine (sqc ?_ (sqc ?_ (sqc ?_ (sqc ?_ (sqc ?_ (sqc ?_ (sqc ?_ (sqc ?_ (sqc ?_ (sqc ?_ (sqc ?_ (sqc ?_ (sqc ?_ (sqc ?_ (sqc ?_ (sqc ?_ (sqc ?_ (sqc ?_ (sqc ?_ (sqc ?_ (sqc ?_ (sqc ?_ (sqc ?_ (sqc ?_ (sqc ?_ (sqc ?_ (sqc ?_ (sqc ?_ (sqc ?_ (sqc ?_ (sqc ?_ (sqc ?_ (sqc ?_ (sqc ?_ (sqc ?_ (sqc ?_ trivial))))))))))))))))))))))))))))))))))))
                · exact zmv rfl trivial _ rfl (by kernel_rfl)
                · exact znc rfl trivial _ _ _ rfl rfl rfl
                · exact zfa rfl trivial _ _ _ _ rfl rfl (fun w hw => faD3 w _ _)
                · exact zld rfl trivial _ _ _ rfl rfl (fun w hw => by rw [← h4_0]; exact load_bo hw.de.crb)
                · exact zmv rfl trivial _ rfl (by kernel_rfl)
                · exact zfa rfl ⟨_, rfl, by kernel_rfl⟩ _ _ _ _ rfl rfl (fun w hw => faE1 w _ _)
                · exact zld rfl ⟨_, rfl, by kernel_rfl⟩ _ _ _ rfl rfl (fun w hw => load_in ((zca hw.bx 1).trans rfl))
                · exact zmv rfl ⟨_, rfl, by kernel_rfl⟩ _ rfl (by kernel_rfl)
                · exact znc rfl ⟨_, rfl, by kernel_rfl⟩ _ _ _ rfl rfl rfl
                · exact zfa rfl ⟨_, rfl, by kernel_rfl⟩ _ _ _ _ rfl rfl (fun w hw => faD4 w _ _)
                · exact zfa rfl ⟨_, rfl, by kernel_rfl⟩ _ _ _ _ rfl rfl (fun w hw => faE1 w _ _)
                · exact zld rfl ⟨_, rfl, by kernel_rfl⟩ _ _ _ rfl rfl (fun w hw => load_in (hw.de.cc (j := 1) (by decide) rfl))
                · exact zbo rfl ⟨_, rfl, by kernel_rfl⟩ _ _ _ _ _ _ _ rfl rfl rfl (fun w hw => by rw [← h4_1]; exact bin_neq _ _ _)
                · exact zmv rfl ⟨_, rfl, by kernel_rfl⟩ _ rfl (by kernel_rfl)
                · exact zfa rfl ⟨_, rfl, by kernel_rfl⟩ _ _ _ _ rfl rfl (fun w hw => faE0 w _ _)
                · exact zld rfl ⟨_, rfl, by kernel_rfl⟩ _ _ _ rfl rfl (fun w hw => load_in ((zca hw.bx 0).trans rfl))
                · exact zbo rfl ⟨_, rfl, by kernel_rfl⟩ _ _ _ _ _ _ _ rfl rfl rfl (fun w hw => bin_neq _ _ _)
                · exact zmv rfl ⟨_, rfl, by kernel_rfl⟩ _ rfl (by kernel_rfl)
                · exact zfa rfl ⟨_, rfl, by kernel_rfl⟩ _ _ _ _ rfl rfl (fun w hw => faE0 w _ _)
                · exact zld rfl ⟨_, rfl, by kernel_rfl⟩ _ _ _ rfl rfl (fun w hw => load_in ((zca hw.bx 0).trans rfl))
                · exact zbo rfl ⟨_, rfl, by kernel_rfl⟩ _ _ _ _ _ _ _ rfl rfl rfl (fun w hw => bin_neq _ _ _)
                · exact step_pick rfl ⟨_, rfl, by kernel_rfl⟩ _ _ _ true rfl (by kernel_rfl) (by kernel_rfl)
                · exact step_pick rfl ⟨_, rfl, by kernel_rfl⟩ _ _ _ false rfl (by kernel_rfl) (by kernel_rfl)
                · exact step_pick rfl trivial _ _ _ true rfl (by kernel_rfl) (by kernel_rfl)
                · exact zmv rfl trivial _ rfl (by kernel_rfl)
                · exact zsk rfl 24 false 73 (.bool true) rfl rfl (by kernel_rfl) (by intro h; cases h) rfl
                · exact zsk rfl 24 false 73 (.bool true) rfl rfl (by kernel_rfl) (by intro h; cases h) rfl
                · exact zsk rfl 24 false 73 (.bool true) rfl rfl (by kernel_rfl) (by intro h; cases h) rfl
                · exact zsk rfl 24 false 73 (.bool true) rfl rfl (by kernel_rfl) (by intro h; cases h) rfl
                · exact zsk rfl 24 false 73 (.bool true) rfl rfl (by kernel_rfl) (by intro h; cases h) rfl
                · exact zsk rfl 24 false 73 (.bool true) rfl rfl (by kernel_rfl) (by intro h; cases h) rfl
                · exact zsk rfl 30 true 79 undef rfl rfl (by kernel_rfl) (by intro h; cases h) rfl
                · exact zsk rfl 30 true 79 undef rfl rfl (by kernel_rfl) (by intro h; cases h) rfl
                · exact zsk rfl 30 true 79 undef rfl rfl (by kernel_rfl) (by intro h; cases h) rfl
                · exact zsk rfl 24 false 73 (.bool true) rfl rfl (by kernel_rfl) (by intro h; cases h) rfl
                · exact step_pick rfl trivial _ _ _ true rfl (by kernel_rfl) (by kernel_rfl)
              intro W hW
              first | refine hK _ _ ?_ | refine (‹∀ (a : Act) (w : World), Code.wp Try.prog _ _ a w → _›) _ _ ?_ | skip
              simp only [finL, List.getD_cons_zero, List.getD_cons_succ, Nat.zero_add, Nat.reduceAdd, List.setIfInBounds_toArray, List.set_cons_zero, List.set_cons_succ]
              go_wp2
              go_ret
              exact ho_no (by unfold hold; rw [HP]; unfold rwbad; try simp only [h4_0]; try simp only [h4_1]; rfl) hW.tn
          | false =>
            refine wp_region_any hmx ?_
            refine zwp (fun i__ => ([(.pointer (some ⟨y, 0, none⟩)), (.pointer (some ⟨y, 0, none⟩)), (.pointer (some ⟨y, 602, none⟩)), (.bool false), (.bool false), undef, undef, undef, undef, undef, undef, undef, undef, undef, undef, undef, undef, undef, undef, undef, undef, undef, undef, (.bool false), (.bool false), (.pointer (some ⟨y, 0, none⟩)), (.pointer (some ⟨y, 0, none⟩)), (.pointer (some ⟨y, 602, none⟩)), (.bool false), (.bool true), (.bool true), (.pointer (some ⟨w.heap.size, 0, none⟩)), (.int .i64 1), (.bool false), (.bool false), (.bool false)] : List Value).getD i__ undef) (fun V => JH w y w.heap.size n f D ⟨1, nd, li, ro, ta, of, du, he, un⟩ V) (by kernel_rfl) (hJ3.carry (Below.refl _ _).drew) ?_ ?_
            · refine (sqc ?_ (sqc ?_ (sqc ?_ (sqc ?_ (sqc ?_ (sqc ?_ (sqc ?_ (sqc ?_ (sqc ?_ (sqc ?_ (sqc ?_ (sqc ?_ (sqc ?_ (sqc ?_ (sqc ?_ (sqc ?_ (sqc ?_ (sqc ?_ (sqc ?_ (sqc ?_ (sqc ?_ (sqc ?_ (sqc ?_ (sqc ?_ (sqc ?_ (sqc ?_ (sqc ?_ (sqc ?_ (sqc ?_ (sqc ?_ (sqc ?_ (sqc ?_ (sqc ?_ (sqc ?_ (sqc ?_ (sqc ?_ trivial))))))))))))))))))))))))))))))))))))
              · exact zmv rfl trivial _ rfl (by kernel_rfl)
              · exact znc rfl trivial _ _ _ rfl rfl rfl
              · exact zfa rfl trivial _ _ _ _ rfl rfl (fun w hw => faD3 w _ _)
              · exact zld rfl trivial _ _ _ rfl rfl (fun w hw => by rw [← h4_0]; exact load_bo hw.de.crb)
              · exact zmv rfl trivial _ rfl (by kernel_rfl)
              · exact zsk rfl 4 true 53 (.bool false) rfl rfl (by kernel_rfl) (by intro h; cases h) rfl
              · exact zsk rfl 4 true 53 (.bool false) rfl rfl (by kernel_rfl) (by intro h; cases h) rfl
              · exact zsk rfl 4 true 53 (.bool false) rfl rfl (by kernel_rfl) (by intro h; cases h) rfl
              · exact zsk rfl 4 true 53 (.bool false) rfl rfl (by kernel_rfl) (by intro h; cases h) rfl
              · exact zsk rfl 4 true 53 (.bool false) rfl rfl (by kernel_rfl) (by intro h; cases h) rfl
              · exact zsk rfl 4 true 53 (.bool false) rfl rfl (by kernel_rfl) (by intro h; cases h) rfl
              · exact zsk rfl 4 true 53 (.bool false) rfl rfl (by kernel_rfl) (by intro h; cases h) rfl
              · exact zsk rfl 4 true 53 (.bool false) rfl rfl (by kernel_rfl) (by intro h; cases h) rfl
              · exact zsk rfl 4 true 53 (.bool false) rfl rfl (by kernel_rfl) (by intro h; cases h) rfl
              · exact zsk rfl 13 false 62 undef rfl rfl (by kernel_rfl) (by intro h; cases h) rfl
              · exact zsk rfl 13 false 62 undef rfl rfl (by kernel_rfl) (by intro h; cases h) rfl
              · exact zsk rfl 13 false 62 undef rfl rfl (by kernel_rfl) (by intro h; cases h) rfl
              · exact zsk rfl 13 false 62 undef rfl rfl (by kernel_rfl) (by intro h; cases h) rfl
              · exact zsk rfl 17 true 66 undef rfl rfl (by kernel_rfl) (by intro h; cases h) rfl
              · exact zsk rfl 17 true 66 undef rfl rfl (by kernel_rfl) (by intro h; cases h) rfl
              · exact zsk rfl 17 true 66 undef rfl rfl (by kernel_rfl) (by intro h; cases h) rfl
              · exact zsk rfl 13 false 62 undef rfl rfl (by kernel_rfl) (by intro h; cases h) rfl
              · exact zsk rfl 4 true 53 (.bool false) rfl rfl (by kernel_rfl) (by intro h; cases h) rfl
              · exact step_pick rfl trivial _ _ _ false rfl (by kernel_rfl) (by kernel_rfl)
              · exact zmv rfl trivial _ rfl (by kernel_rfl)
              · exact zmv rfl ⟨_, rfl, by kernel_rfl⟩ _ rfl (by kernel_rfl)
              · exact znc rfl ⟨_, rfl, by kernel_rfl⟩ _ _ _ rfl rfl rfl
              · exact zfa rfl ⟨_, rfl, by kernel_rfl⟩ _ _ _ _ rfl rfl (fun w hw => faD3 w _ _)
              · exact zld rfl ⟨_, rfl, by kernel_rfl⟩ _ _ _ rfl rfl (fun w hw => by rw [← h4_0]; exact load_bo hw.de.crb)
              · exact step_unOp rfl ⟨_, rfl, by kernel_rfl⟩ _ _ _ _ rfl rfl (fun w hw => rfl)
              · exact zmv rfl ⟨_, rfl, by kernel_rfl⟩ _ rfl (by kernel_rfl)
              · exact zfa rfl ⟨_, rfl, by kernel_rfl⟩ _ _ _ _ rfl rfl (fun w hw => faE0 w _ _)
              · exact zld rfl ⟨_, rfl, by kernel_rfl⟩ _ _ _ rfl rfl (fun w hw => load_in ((zca hw.bx 0).trans rfl))
              · exact zbo rfl ⟨_, rfl, by kernel_rfl⟩ _ _ _ _ _ _ _ rfl rfl rfl (fun w hw => bin_eql _ _ _)
              · exact step_pick rfl ⟨_, rfl, by kernel_rfl⟩ _ _ _ true rfl (by kernel_rfl) (by kernel_rfl)
              · exact step_pick rfl trivial _ _ _ false rfl (by kernel_rfl) (by kernel_rfl)
            intro W hW
            first | refine hK _ _ ?_ | refine (‹∀ (a : Act) (w : World), Code.wp Try.prog _ _ a w → _›) _ _ ?_ | skip
            simp only [finL, List.getD_cons_zero, List.getD_cons_succ, Nat.zero_add, Nat.reduceAdd, List.setIfInBounds_toArray, List.set_cons_zero, List.set_cons_succ]
            obtain ⟨W4, rfl⟩ : ∃ V, V = W := ⟨_, rfl⟩
            have hJ4 := hW
            clear hW
            have HR : rwbad D ⟨1, nd, li, ro, ta, of, du, he, un⟩ = false := by unfold rwbad; try simp only [h4_0]; rfl
            have HO := hold_at (f := f) HP HR hm HX.out
            go_wp2
            refine wp_region_any hmx ?_
            refine zwp (fun i__ => ([(.pointer (some ⟨w.heap.size, 0, none⟩)), (.int .i64 1), (.bool false), (.bool false), undef, undef, undef, undef, undef, undef, undef, undef, undef, undef, undef, undef, undef, undef, (.bool false)] : List Value).getD i__ undef) (fun V => JH w y w.heap.size n f D ⟨1, nd, li, ro, ta, of, du, he, un⟩ V) (by kernel_rfl) (hJ4.carry (Below.refl _ _).drew) ?_ ?_
            · refine (sqc ?_ (sqc ?_ (sqc ?_ (sqc ?_ (sqc ?_ (sqc ?_ (sqc ?_ (sqc ?_ (sqc ?_ (sqc ?_ (sqc ?_ (sqc ?_ (sqc ?_ (sqc ?_ (sqc ?_ (sqc ?_ (sqc ?_ (sqc ?_ (sqc ?_ trivial)))))))))))))))))))
              · exact zfa rfl trivial _ _ _ _ rfl rfl (fun w hw => faE0 w _ _)
              · exact zld rfl trivial _ _ _ rfl rfl (fun w hw => load_in ((zca hw.bx 0).trans rfl))
              · exact zbo rfl trivial _ _ _ _ _ _ _ rfl rfl rfl (fun w hw => bin_neq _ _ _)
              · exact zmv rfl trivial _ rfl (by kernel_rfl)
              · exact zsk rfl 3 true 88 (.bool false) rfl rfl (by kernel_rfl) (by intro h; cases h) rfl
              · exact zsk rfl 3 true 88 (.bool false) rfl rfl (by kernel_rfl) (by intro h; cases h) rfl
              · exact zsk rfl 3 true 88 (.bool false) rfl rfl (by kernel_rfl) (by intro h; cases h) rfl
              · exact zsk rfl 3 true 88 (.bool false) rfl rfl (by kernel_rfl) (by intro h; cases h) rfl
              · exact zsk rfl 3 true 88 (.bool false) rfl rfl (by kernel_rfl) (by intro h; cases h) rfl
              · exact zsk rfl 3 true 88 (.bool false) rfl rfl (by kernel_rfl) (by intro h; cases h) rfl
              · exact zsk rfl 9 false 94 undef rfl rfl (by kernel_rfl) (by intro h; cases h) rfl
              · exact zsk rfl 9 false 94 undef rfl rfl (by kernel_rfl) (by intro h; cases h) rfl
              · exact zsk rfl 9 false 94 undef rfl rfl (by kernel_rfl) (by intro h; cases h) rfl
              · exact zsk rfl 9 false 94 undef rfl rfl (by kernel_rfl) (by intro h; cases h) rfl
              · exact zsk rfl 9 false 94 undef rfl rfl (by kernel_rfl) (by intro h; cases h) rfl
              · exact zsk rfl 9 false 94 undef rfl rfl (by kernel_rfl) (by intro h; cases h) rfl
              · exact zsk rfl 9 false 94 undef rfl rfl (by kernel_rfl) (by intro h; cases h) rfl
              · exact zsk rfl 3 true 88 (.bool false) rfl rfl (by kernel_rfl) (by intro h; cases h) rfl
              · exact step_pick rfl trivial _ _ _ false rfl (by kernel_rfl) (by kernel_rfl)
            intro W hW
            first | refine hK _ _ ?_ | refine (‹∀ (a : Act) (w : World), Code.wp Try.prog _ _ a w → _›) _ _ ?_ | skip
            simp only [finL, List.getD_cons_zero, List.getD_cons_succ, Nat.zero_add, Nat.reduceAdd, List.setIfInBounds_toArray, List.set_cons_zero, List.set_cons_succ]
            obtain ⟨W6, rfl⟩ : ∃ V, V = W := ⟨_, rfl⟩
            have hJ6 := hW
            clear hW
            have ck : W6.cell? ⟨w.heap.size, 0, none⟩ = some (.int .i64 1) := (zca hJ6.bx 0).trans rfl
            have HO2 : hold n f D ⟨1, nd, li, ro, ta, of, du, he, un⟩ = dlw n f D ⟨1, nd, li, ro, ta, of, du, he, un⟩ m u := by rw [HO]; unfold upbad; skip; rfl
            go_wp2
            cases h10_0 : u.up with
            | true =>
              refine wp_region_any hmx ?_
              refine zwp (fun i__ => ([(.pointer (some ⟨y, 2 + m * 6, none⟩)), (.pointer (some ⟨y, 2 + m * 6, none⟩)), (.pointer (some ⟨y, 2 + m * 6, none⟩)), (.bool true), (.bool true), undef, undef, undef, undef, undef, undef, undef, (.bool true), (.bool true), undef, undef, undef, (.bool true), (.bool true), undef, undef, undef, (.bool true), (.bool true), undef, undef, undef, undef, undef, undef, undef, (.bool true), (.bool true), undef, undef, undef, undef, undef, undef, undef, (.bool true), (.bool true), undef, undef, undef, (.bool true)] : List Value).getD i__ undef) (fun V => JH w y w.heap.size n f D ⟨1, nd, li, ro, ta, of, du, he, un⟩ V) (by kernel_rfl) (hJ6.carry (Below.refl _ _).drew) ?_ ?_
              · refine (sqc ?_ (sqc ?_ (sqc ?_ (sqc ?_ (sqc ?_ (sqc ?_ (sqc ?_ (sqc ?_ (sqc ?_ (sqc ?_ (sqc ?_ (sqc ?_ (sqc ?_ (sqc ?_ (sqc ?_ (sqc ?_ (sqc ?_ (sqc ?_ (sqc ?_ (sqc ?_ (sqc ?_ (sqc ?_ (sqc ?_ (sqc ?_ (sqc ?_ (sqc ?_ (sqc ?_ (sqc ?_ (sqc ?_ (sqc ?_ (sqc ?_ (sqc ?_ (sqc ?_ (sqc ?_ (sqc ?_ (sqc ?_ (sqc ?_ (sqc ?_ (sqc ?_ (sqc ?_ (sqc ?_ (sqc ?_ (sqc ?_ (sqc ?_ (sqc ?_ (sqc ?_ trivial))))))))))))))))))))))))))))))))))))))))))))))
                · exact zmv rfl trivial _ rfl (by kernel_rfl)
                · exact znc rfl trivial _ _ _ rfl rfl rfl
                · exact zfa rfl trivial _ _ _ _ rfl rfl (fun w hw => faM0 w _ _)
                · exact zld rfl trivial _ _ _ rfl rfl (fun w hw => by rw [← h10_0]; exact load_bo (hw.de.cn hm (j := 0) (by decide) rfl))
                · exact zmv rfl trivial _ rfl (by kernel_rfl)
                · exact zsk rfl 4 false 112 (.bool true) rfl rfl (by kernel_rfl) (by intro h; cases h) rfl
                · exact zsk rfl 4 false 112 (.bool true) rfl rfl (by kernel_rfl) (by intro h; cases h) rfl
                · exact zsk rfl 4 false 112 (.bool true) rfl rfl (by kernel_rfl) (by intro h; cases h) rfl
                · exact zsk rfl 4 false 112 (.bool true) rfl rfl (by kernel_rfl) (by intro h; cases h) rfl
                · exact zsk rfl 4 false 112 (.bool true) rfl rfl (by kernel_rfl) (by intro h; cases h) rfl
                · exact zsk rfl 4 false 112 (.bool true) rfl rfl (by kernel_rfl) (by intro h; cases h) rfl
                · exact zsk rfl 4 false 112 (.bool true) rfl rfl (by kernel_rfl) (by intro h; cases h) rfl
                · exact step_pick rfl trivial _ _ _ true rfl (by kernel_rfl) (by kernel_rfl)
                · exact zmv rfl trivial _ rfl (by kernel_rfl)
                · exact zsk rfl 13 false 121 (.bool true) rfl rfl (by kernel_rfl) (by intro h; cases h) rfl
                · exact zsk rfl 13 false 121 (.bool true) rfl rfl (by kernel_rfl) (by intro h; cases h) rfl
                · exact zsk rfl 13 false 121 (.bool true) rfl rfl (by kernel_rfl) (by intro h; cases h) rfl
                · exact step_pick rfl trivial _ _ _ true rfl (by kernel_rfl) (by kernel_rfl)
                · exact zmv rfl trivial _ rfl (by kernel_rfl)
                · exact zsk rfl 18 false 126 (.bool true) rfl rfl (by kernel_rfl) (by intro h; cases h) rfl
                · exact zsk rfl 18 false 126 (.bool true) rfl rfl (by kernel_rfl) (by intro h; cases h) rfl
                · exact zsk rfl 18 false 126 (.bool true) rfl rfl (by kernel_rfl) (by intro h; cases h) rfl
                · exact step_pick rfl trivial _ _ _ true rfl (by kernel_rfl) (by kernel_rfl)
                · exact zmv rfl trivial _ rfl (by kernel_rfl)
                · exact zsk rfl 23 false 131 (.bool true) rfl rfl (by kernel_rfl) (by intro h; cases h) rfl
                · exact zsk rfl 23 false 131 (.bool true) rfl rfl (by kernel_rfl) (by intro h; cases h) rfl
                · exact zsk rfl 23 false 131 (.bool true) rfl rfl (by kernel_rfl) (by intro h; cases h) rfl
                · exact zsk rfl 23 false 131 (.bool true) rfl rfl (by kernel_rfl) (by intro h; cases h) rfl
                · exact zsk rfl 23 false 131 (.bool true) rfl rfl (by kernel_rfl) (by intro h; cases h) rfl
                · exact zsk rfl 23 false 131 (.bool true) rfl rfl (by kernel_rfl) (by intro h; cases h) rfl
                · exact zsk rfl 23 false 131 (.bool true) rfl rfl (by kernel_rfl) (by intro h; cases h) rfl
                · exact step_pick rfl trivial _ _ _ true rfl (by kernel_rfl) (by kernel_rfl)
                · exact zmv rfl trivial _ rfl (by kernel_rfl)
                · exact zsk rfl 32 false 140 (.bool true) rfl rfl (by kernel_rfl) (by intro h; cases h) rfl
                · exact zsk rfl 32 false 140 (.bool true) rfl rfl (by kernel_rfl) (by intro h; cases h) rfl
                · exact zsk rfl 32 false 140 (.bool true) rfl rfl (by kernel_rfl) (by intro h; cases h) rfl
                · exact zsk rfl 32 false 140 (.bool true) rfl rfl (by kernel_rfl) (by intro h; cases h) rfl
                · exact zsk rfl 32 false 140 (.bool true) rfl rfl (by kernel_rfl) (by intro h; cases h) rfl
                · exact zsk rfl 32 false 140 (.bool true) rfl rfl (by kernel_rfl) (by intro h; cases h) rfl
                · exact zsk rfl 32 false 140 (.bool true) rfl rfl (by kernel_rfl) (by intro h; cases h) rfl
                · exact step_pick rfl trivial _ _ _ true rfl (by kernel_rfl) (by kernel_rfl)
                · exact zmv rfl trivial _ rfl (by kernel_rfl)
                · exact zsk rfl 41 false 149 (.bool true) rfl rfl (by kernel_rfl) (by intro h; cases h) rfl
                · exact zsk rfl 41 false 149 (.bool true) rfl rfl (by kernel_rfl) (by intro h; cases h) rfl
                · exact zsk rfl 41 false 149 (.bool true) rfl rfl (by kernel_rfl) (by intro h; cases h) rfl
                · exact step_pick rfl trivial _ _ _ true rfl (by kernel_rfl) (by kernel_rfl)
              intro W hW
              first | refine hK _ _ ?_ | refine (‹∀ (a : Act) (w : World), Code.wp Try.prog _ _ a w → _›) _ _ ?_ | skip
              simp only [finL, List.getD_cons_zero, List.getD_cons_succ, Nat.zero_add, Nat.reduceAdd, List.setIfInBounds_toArray, List.set_cons_zero, List.set_cons_succ]
              go_wp2
              go_ret
              exact ho_no (by rw [HO2]; unfold dlw dl1; try simp only [h4_0]; try simp only [h10_0]; rfl) hW.tn
            | false =>
              cases h10_1 : decide (li ≤ u.most) with
              | true =>
                refine wp_region_any hmx ?_
                refine zwp (fun i__ => ([(.pointer (some ⟨y, 2 + m * 6, none⟩)), (.pointer (some ⟨y, 2 + m * 6, none⟩)), (.pointer (some ⟨y, 2 + m * 6, none⟩)), (.bool false), (.bool false), (.pointer (some ⟨w.heap.size, 2, none⟩)), (.int .i64 li), (.pointer (some ⟨y, 2 + m * 6, none⟩)), (.pointer (some ⟨y, 2 + m * 6, none⟩)), (.pointer (some ⟨y, 2 + m * 6 + 2, none⟩)), (.int .i64 u.most), (.bool true), (.bool true), (.bool true), undef, undef, undef, (.bool true), (.bool true), undef, undef, undef, (.bool true), (.bool true), undef, undef, undef, undef, undef, undef, undef, (.bool true), (.bool true), undef, undef, undef, undef, undef, undef, undef, (.bool true), (.bool true), undef, undef, undef, (.bool true)] : List Value).getD i__ undef) (fun V => JH w y w.heap.size n f D ⟨1, nd, li, ro, ta, of, du, he, un⟩ V) (by kernel_rfl) (hJ6.carry (Below.refl _ _).drew) ?_ ?_
                · refine (sqc ?_ (sqc ?_ (sqc ?_ (sqc ?_ (sqc ?_ (sqc ?_ (sqc ?_ (sqc ?_ (sqc ?_ (sqc ?_ (sqc ?_ (sqc ?_ (sqc ?_ (sqc ?_ (sqc ?_ (sqc ?_ (sqc ?_ (sqc ?_ (sqc ?_ (sqc ?_ (sqc ?_ (sqc ?_ (sqc ?_ (sqc ?_ (sqc ?_ (sqc ?_ (sqc ?_ (sqc ?_ (sqc ?_ (sqc ?_ (sqc ?_ (sqc ?_ (sqc ?_ (sqc ?_ (sqc ?_ (sqc ?_ (sqc ?_ (sqc ?_ (sqc ?_ (sqc ?_ (sqc ?_ (sqc ?_ (sqc ?_ (sqc ?_ (sqc ?_ (sqc ?_ trivial))))))))))))))))))))))))))))))))))))))))))))))
                  · exact zmv rfl trivial _ rfl (by kernel_rfl)
                  · exact znc rfl trivial _ _ _ rfl rfl rfl
                  · exact zfa rfl trivial _ _ _ _ rfl rfl (fun w hw => faM0 w _ _)
                  · exact zld rfl trivial _ _ _ rfl rfl (fun w hw => by rw [← h10_0]; exact load_bo (hw.de.cn hm (j := 0) (by decide) rfl))
                  · exact zmv rfl trivial _ rfl (by kernel_rfl)
                  · exact zfa rfl ⟨_, rfl, by kernel_rfl⟩ _ _ _ _ rfl rfl (fun w hw => faE2 w _ _)
                  · exact zld rfl ⟨_, rfl, by kernel_rfl⟩ _ _ _ rfl rfl (fun w hw => load_in ((zca hw.bx 2).trans rfl))
                  · exact zmv rfl ⟨_, rfl, by kernel_rfl⟩ _ rfl (by kernel_rfl)
                  · exact znc rfl ⟨_, rfl, by kernel_rfl⟩ _ _ _ rfl rfl rfl
                  · exact zfa rfl ⟨_, rfl, by kernel_rfl⟩ _ _ _ _ rfl rfl (fun w hw => faM2 w _ _)
                  · exact zld rfl ⟨_, rfl, by kernel_rfl⟩ _ _ _ rfl rfl (fun w hw => load_in (hw.de.cn hm (j := 2) (by decide) rfl))
                  · exact zbo rfl ⟨_, rfl, by kernel_rfl⟩ _ _ _ _ _ _ _ rfl rfl rfl (fun w hw => by rw [← h10_1]; exact bin_leq _ _ _)
                  · exact step_pick rfl trivial _ _ _ false rfl (by kernel_rfl) (by kernel_rfl)
                  · exact zmv rfl trivial _ rfl (by kernel_rfl)
                  · exact zsk rfl 13 false 121 (.bool true) rfl rfl (by kernel_rfl) (by intro h; cases h) rfl
                  · exact zsk rfl 13 false 121 (.bool true) rfl rfl (by kernel_rfl) (by intro h; cases h) rfl
                  · exact zsk rfl 13 false 121 (.bool true) rfl rfl (by kernel_rfl) (by intro h; cases h) rfl
                  · exact step_pick rfl trivial _ _ _ true rfl (by kernel_rfl) (by kernel_rfl)
                  · exact zmv rfl trivial _ rfl (by kernel_rfl)
                  · exact zsk rfl 18 false 126 (.bool true) rfl rfl (by kernel_rfl) (by intro h; cases h) rfl
                  · exact zsk rfl 18 false 126 (.bool true) rfl rfl (by kernel_rfl) (by intro h; cases h) rfl
                  · exact zsk rfl 18 false 126 (.bool true) rfl rfl (by kernel_rfl) (by intro h; cases h) rfl
                  · exact step_pick rfl trivial _ _ _ true rfl (by kernel_rfl) (by kernel_rfl)
                  · exact zmv rfl trivial _ rfl (by kernel_rfl)
                  · exact zsk rfl 23 false 131 (.bool true) rfl rfl (by kernel_rfl) (by intro h; cases h) rfl
                  · exact zsk rfl 23 false 131 (.bool true) rfl rfl (by kernel_rfl) (by intro h; cases h) rfl
                  · exact zsk rfl 23 false 131 (.bool true) rfl rfl (by kernel_rfl) (by intro h; cases h) rfl
                  · exact zsk rfl 23 false 131 (.bool true) rfl rfl (by kernel_rfl) (by intro h; cases h) rfl
                  · exact zsk rfl 23 false 131 (.bool true) rfl rfl (by kernel_rfl) (by intro h; cases h) rfl
                  · exact zsk rfl 23 false 131 (.bool true) rfl rfl (by kernel_rfl) (by intro h; cases h) rfl
                  · exact zsk rfl 23 false 131 (.bool true) rfl rfl (by kernel_rfl) (by intro h; cases h) rfl
                  · exact step_pick rfl trivial _ _ _ true rfl (by kernel_rfl) (by kernel_rfl)
                  · exact zmv rfl trivial _ rfl (by kernel_rfl)
                  · exact zsk rfl 32 false 140 (.bool true) rfl rfl (by kernel_rfl) (by intro h; cases h) rfl
                  · exact zsk rfl 32 false 140 (.bool true) rfl rfl (by kernel_rfl) (by intro h; cases h) rfl
                  · exact zsk rfl 32 false 140 (.bool true) rfl rfl (by kernel_rfl) (by intro h; cases h) rfl
                  · exact zsk rfl 32 false 140 (.bool true) rfl rfl (by kernel_rfl) (by intro h; cases h) rfl
                  · exact zsk rfl 32 false 140 (.bool true) rfl rfl (by kernel_rfl) (by intro h; cases h) rfl
                  · exact zsk rfl 32 false 140 (.bool true) rfl rfl (by kernel_rfl) (by intro h; cases h) rfl
                  · exact zsk rfl 32 false 140 (.bool true) rfl rfl (by kernel_rfl) (by intro h; cases h) rfl
                  · exact step_pick rfl trivial _ _ _ true rfl (by kernel_rfl) (by kernel_rfl)
                  · exact zmv rfl trivial _ rfl (by kernel_rfl)
                  · exact zsk rfl 41 false 149 (.bool true) rfl rfl (by kernel_rfl) (by intro h; cases h) rfl
                  · exact zsk rfl 41 false 149 (.bool true) rfl rfl (by kernel_rfl) (by intro h; cases h) rfl
                  · exact zsk rfl 41 false 149 (.bool true) rfl rfl (by kernel_rfl) (by intro h; cases h) rfl
                  · exact step_pick rfl trivial _ _ _ true rfl (by kernel_rfl) (by kernel_rfl)
                intro W hW
                first | refine hK _ _ ?_ | refine (‹∀ (a : Act) (w : World), Code.wp Try.prog _ _ a w → _›) _ _ ?_ | skip
                simp only [finL, List.getD_cons_zero, List.getD_cons_succ, Nat.zero_add, Nat.reduceAdd, List.setIfInBounds_toArray, List.set_cons_zero, List.set_cons_succ]
                go_wp2
                go_ret
                exact ho_no (by rw [HO2]; unfold dlw dl1; try simp only [h4_0]; try simp only [h10_0]; try simp only [h10_1]; rfl) hW.tn
              | false =>
                cases h10_2 : decide (ro < 1) with
                | true =>
                  refine wp_region_any hmx ?_
                  refine zwp (fun i__ => ([(.pointer (some ⟨y, 2 + m * 6, none⟩)), (.pointer (some ⟨y, 2 + m * 6, none⟩)), (.pointer (some ⟨y, 2 + m * 6, none⟩)), (.bool false), (.bool false), (.pointer (some ⟨w.heap.size, 2, none⟩)), (.int .i64 li), (.pointer (some ⟨y, 2 + m * 6, none⟩)), (.pointer (some ⟨y, 2 + m * 6, none⟩)), (.pointer (some ⟨y, 2 + m * 6 + 2, none⟩)), (.int .i64 u.most), (.bool false), (.bool false), (.bool false), (.pointer (some ⟨w.heap.size, 3, none⟩)), (.int .i64 ro), (.bool true), (.bool true), (.bool true), undef, undef, undef, (.bool true), (.bool true), undef, undef, undef, undef, undef, undef, undef, (.bool true), (.bool true), undef, undef, undef, undef, undef, undef, undef, (.bool true), (.bool true), undef, undef, undef, (.bool true)] : List Value).getD i__ undef) (fun V => JH w y w.heap.size n f D ⟨1, nd, li, ro, ta, of, du, he, un⟩ V) (by kernel_rfl) (hJ6.carry (Below.refl _ _).drew) ?_ ?_
                  · refine (sqc ?_ (sqc ?_ (sqc ?_ (sqc ?_ (sqc ?_ (sqc ?_ (sqc ?_ (sqc ?_ (sqc ?_ (sqc ?_ (sqc ?_ (sqc ?_ (sqc ?_ (sqc ?_ (sqc ?_ (sqc ?_ (sqc ?_ (sqc ?_ (sqc ?_ (sqc ?_ (sqc ?_ (sqc ?_ (sqc ?_ (sqc ?_ (sqc ?_ (sqc ?_ (sqc ?_ (sqc ?_ (sqc ?_ (sqc ?_ (sqc ?_ (sqc ?_ (sqc ?_ (sqc ?_ (sqc ?_ (sqc ?_ (sqc ?_ (sqc ?_ (sqc ?_ (sqc ?_ (sqc ?_ (sqc ?_ (sqc ?_ (sqc ?_ (sqc ?_ (sqc ?_ trivial))))))))))))))))))))))))))))))))))))))))))))))
                    · exact zmv rfl trivial _ rfl (by kernel_rfl)
                    · exact znc rfl trivial _ _ _ rfl rfl rfl
                    · exact zfa rfl trivial _ _ _ _ rfl rfl (fun w hw => faM0 w _ _)
                    · exact zld rfl trivial _ _ _ rfl rfl (fun w hw => by rw [← h10_0]; exact load_bo (hw.de.cn hm (j := 0) (by decide) rfl))
                    · exact zmv rfl trivial _ rfl (by kernel_rfl)
                    · exact zfa rfl ⟨_, rfl, by kernel_rfl⟩ _ _ _ _ rfl rfl (fun w hw => faE2 w _ _)
                    · exact zld rfl ⟨_, rfl, by kernel_rfl⟩ _ _ _ rfl rfl (fun w hw => load_in ((zca hw.bx 2).trans rfl))
                    · exact zmv rfl ⟨_, rfl, by kernel_rfl⟩ _ rfl (by kernel_rfl)
                    · exact znc rfl ⟨_, rfl, by kernel_rfl⟩ _ _ _ rfl rfl rfl
                    · exact zfa rfl ⟨_, rfl, by kernel_rfl⟩ _ _ _ _ rfl rfl (fun w hw => faM2 w _ _)
                    · exact zld rfl ⟨_, rfl, by kernel_rfl⟩ _ _ _ rfl rfl (fun w hw => load_in (hw.de.cn hm (j := 2) (by decide) rfl))
                    · exact zbo rfl ⟨_, rfl, by kernel_rfl⟩ _ _ _ _ _ _ _ rfl rfl rfl (fun w hw => by rw [← h10_1]; exact bin_leq _ _ _)
                    · exact step_pick rfl trivial _ _ _ false rfl (by kernel_rfl) (by kernel_rfl)
                    · exact zmv rfl trivial _ rfl (by kernel_rfl)
                    · exact zfa rfl ⟨_, rfl, by kernel_rfl⟩ _ _ _ _ rfl rfl (fun w hw => faE3 w _ _)
                    · exact zld rfl ⟨_, rfl, by kernel_rfl⟩ _ _ _ rfl rfl (fun w hw => load_in ((zca hw.bx 3).trans rfl))
                    · exact zbo rfl ⟨_, rfl, by kernel_rfl⟩ _ _ _ _ _ _ _ rfl rfl rfl (fun w hw => by rw [← h10_2]; exact bin_lss _ _ _)
                    · exact step_pick rfl trivial _ _ _ false rfl (by kernel_rfl) (by kernel_rfl)
                    · exact zmv rfl trivial _ rfl (by kernel_rfl)
                    · exact zsk rfl 18 false 126 (.bool true) rfl rfl (by kernel_rfl) (by intro h; cases h) rfl
                    · exact zsk rfl 18 false 126 (.bool true) rfl rfl (by kernel_rfl) (by intro h; cases h) rfl
                    · exact zsk rfl 18 false 126 (.bool true) rfl rfl (by kernel_rfl) (by intro h; cases h) rfl
                    · exact step_pick rfl trivial _ _ _ true rfl (by kernel_rfl) (by kernel_rfl)
                    · exact zmv rfl trivial _ rfl (by kernel_rfl)
                    · exact zsk rfl 23 false 131 (.bool true) rfl rfl (by kernel_rfl) (by intro h; cases h) rfl
                    · exact zsk rfl 23 false 131 (.bool true) rfl rfl (by kernel_rfl) (by intro h; cases h) rfl
                    · exact zsk rfl 23 false 131 (.bool true) rfl rfl (by kernel_rfl) (by intro h; cases h) rfl
                    · exact zsk rfl 23 false 131 (.bool true) rfl rfl (by kernel_rfl) (by intro h; cases h) rfl
                    · exact zsk rfl 23 false 131 (.bool true) rfl rfl (by kernel_rfl) (by intro h; cases h) rfl
                    · exact zsk rfl 23 false 131 (.bool true) rfl rfl (by kernel_rfl) (by intro h; cases h) rfl
                    · exact zsk rfl 23 false 131 (.bool true) rfl rfl (by kernel_rfl) (by intro h; cases h) rfl
                    · exact step_pick rfl trivial _ _ _ true rfl (by kernel_rfl) (by kernel_rfl)
                    · exact zmv rfl trivial _ rfl (by kernel_rfl)
                    · exact zsk rfl 32 false 140 (.bool true) rfl rfl (by kernel_rfl) (by intro h; cases h) rfl
                    · exact zsk rfl 32 false 140 (.bool true) rfl rfl (by kernel_rfl) (by intro h; cases h) rfl
                    · exact zsk rfl 32 false 140 (.bool true) rfl rfl (by kernel_rfl) (by intro h; cases h) rfl
                    · exact zsk rfl 32 false 140 (.bool true) rfl rfl (by kernel_rfl) (by intro h; cases h) rfl
                    · exact zsk rfl 32 false 140 (.bool true) rfl rfl (by kernel_rfl) (by intro h; cases h) rfl
                    · exact zsk rfl 32 false 140 (.bool true) rfl rfl (by kernel_rfl) (by intro h; cases h) rfl
                    · exact zsk rfl 32 false 140 (.bool true) rfl rfl (by kernel_rfl) (by intro h; cases h) rfl
                    · exact step_pick rfl trivial _ _ _ true rfl (by kernel_rfl) (by kernel_rfl)
                    · exact zmv rfl trivial _ rfl (by kernel_rfl)
                    · exact zsk rfl 41 false 149 (.bool true) rfl rfl (by kernel_rfl) (by intro h; cases h) rfl
                    · exact zsk rfl 41 false 149 (.bool true) rfl rfl (by kernel_rfl) (by intro h; cases h) rfl
                    · exact zsk rfl 41 false 149 (.bool true) rfl rfl (by kernel_rfl) (by intro h; cases h) rfl
                    · exact step_pick rfl trivial _ _ _ true rfl (by kernel_rfl) (by kernel_rfl)
                  intro W hW
                  first | refine hK _ _ ?_ | refine (‹∀ (a : Act) (w : World), Code.wp Try.prog _ _ a w → _›) _ _ ?_ | skip
                  simp only [finL, List.getD_cons_zero, List.getD_cons_succ, Nat.zero_add, Nat.reduceAdd, List.setIfInBounds_toArray, List.set_cons_zero, List.set_cons_succ]
                  go_wp2
                  go_ret
                  exact ho_no (by rw [HO2]; unfold dlw dl1; try simp only [h4_0]; try simp only [h10_0]; try simp only [h10_1]; try simp only [h10_2]; rfl) hW.tn
                | false =>
                  cases h10_3 : decide (ro > 1099511627775) with
                  | true =>
                    refine wp_region_any hmx ?_
                    refine zwp (fun i__ => ([(.pointer (some ⟨y, 2 + m * 6, none⟩)), (.pointer (some ⟨y, 2 + m * 6, none⟩)), (.pointer (some ⟨y, 2 + m * 6, none⟩)), (.bool false), (.bool false), (.pointer (some ⟨w.heap.size, 2, none⟩)), (.int .i64 li), (.pointer (some ⟨y, 2 + m * 6, none⟩)), (.pointer (some ⟨y, 2 + m * 6, none⟩)), (.pointer (some ⟨y, 2 + m * 6 + 2, none⟩)), (.int .i64 u.most), (.bool false), (.bool false), (.bool false), (.pointer (some ⟨w.heap.size, 3, none⟩)), (.int .i64 ro), (.bool false), (.bool false), (.bool false), (.pointer (some ⟨w.heap.size, 3, none⟩)), (.int .i64 ro), (.bool true), (.bool true), (.bool true), undef, undef, undef, undef, undef, undef, undef, (.bool true), (.bool true), undef, undef, undef, undef, undef, undef, undef, (.bool true), (.bool true), undef, undef, undef, (.bool true)] : List Value).getD i__ undef) (fun V => JH w y w.heap.size n f D ⟨1, nd, li, ro, ta, of, du, he, un⟩ V) (by kernel_rfl) (hJ6.carry (Below.refl _ _).drew) ?_ ?_
                    · refine (sqc ?_ (sqc ?_ (sqc ?_ (sqc ?_ (sqc ?_ (sqc ?_ (sqc ?_ (sqc ?_ (sqc ?_ (sqc ?_ (sqc ?_ (sqc ?_ (sqc ?_ (sqc ?_ (sqc ?_ (sqc ?_ (sqc ?_ (sqc ?_ (sqc ?_ (sqc ?_ (sqc ?_ (sqc ?_ (sqc ?_ (sqc ?_ (sqc ?_ (sqc ?_ (sqc ?_ (sqc ?_ (sqc ?_ (sqc ?_ (sqc ?_ (sqc ?_ (sqc ?_ (sqc ?_ (sqc ?_ (sqc ?_ (sqc ?_ (sqc ?_ (sqc ?_ (sqc ?_ (sqc ?_ (sqc ?_ (sqc ?_ (sqc ?_ (sqc ?_ (sqc ?_ trivial))))))))))))))))))))))))))))))))))))))))))))))
                      · exact zmv rfl trivial _ rfl (by kernel_rfl)
                      · exact znc rfl trivial _ _ _ rfl rfl rfl
                      · exact zfa rfl trivial _ _ _ _ rfl rfl (fun w hw => faM0 w _ _)
                      · exact zld rfl trivial _ _ _ rfl rfl (fun w hw => by rw [← h10_0]; exact load_bo (hw.de.cn hm (j := 0) (by decide) rfl))
                      · exact zmv rfl trivial _ rfl (by kernel_rfl)
                      · exact zfa rfl ⟨_, rfl, by kernel_rfl⟩ _ _ _ _ rfl rfl (fun w hw => faE2 w _ _)
                      · exact zld rfl ⟨_, rfl, by kernel_rfl⟩ _ _ _ rfl rfl (fun w hw => load_in ((zca hw.bx 2).trans rfl))
                      · exact zmv rfl ⟨_, rfl, by kernel_rfl⟩ _ rfl (by kernel_rfl)
                      · exact znc rfl ⟨_, rfl, by kernel_rfl⟩ _ _ _ rfl rfl rfl
                      · exact zfa rfl ⟨_, rfl, by kernel_rfl⟩ _ _ _ _ rfl rfl (fun w hw => faM2 w _ _)
                      · exact zld rfl ⟨_, rfl, by kernel_rfl⟩ _ _ _ rfl rfl (fun w hw => load_in (hw.de.cn hm (j := 2) (by decide) rfl))
                      · exact zbo rfl ⟨_, rfl, by kernel_rfl⟩ _ _ _ _ _ _ _ rfl rfl rfl (fun w hw => by rw [← h10_1]; exact bin_leq _ _ _)
                      · exact step_pick rfl trivial _ _ _ false rfl (by kernel_rfl) (by kernel_rfl)
                      · exact zmv rfl trivial _ rfl (by kernel_rfl)
                      · exact zfa rfl ⟨_, rfl, by kernel_rfl⟩ _ _ _ _ rfl rfl (fun w hw => faE3 w _ _)
                      · exact zld rfl ⟨_, rfl, by kernel_rfl⟩ _ _ _ rfl rfl (fun w hw => load_in ((zca hw.bx 3).trans rfl))
                      · exact zbo rfl ⟨_, rfl, by kernel_rfl⟩ _ _ _ _ _ _ _ rfl rfl rfl (fun w hw => by rw [← h10_2]; exact bin_lss _ _ _)
                      · exact step_pick rfl trivial _ _ _ false rfl (by kernel_rfl) (by kernel_rfl)
                      · exact zmv rfl trivial _ rfl (by kernel_rfl)
                      · exact zfa rfl ⟨_, rfl, by kernel_rfl⟩ _ _ _ _ rfl rfl (fun w hw => faE3 w _ _)
                      · exact zld rfl ⟨_, rfl, by kernel_rfl⟩ _ _ _ rfl rfl (fun w hw => load_in ((zca hw.bx 3).trans rfl))
                      · exact zbo rfl ⟨_, rfl, by kernel_rfl⟩ _ _ _ _ _ _ _ rfl rfl rfl (fun w hw => by rw [← h10_3]; exact bin_gtr _ _ _)
                      · exact step_pick rfl trivial _ _ _ false rfl (by kernel_rfl) (by kernel_rfl)
                      · exact zmv rfl trivial _ rfl (by kernel_rfl)
                      · exact zsk rfl 23 false 131 (.bool true) rfl rfl (by kernel_rfl) (by intro h; cases h) rfl
                      · exact zsk rfl 23 false 131 (.bool true) rfl rfl (by kernel_rfl) (by intro h; cases h) rfl
                      · exact zsk rfl 23 false 131 (.bool true) rfl rfl (by kernel_rfl) (by intro h; cases h) rfl
                      · exact zsk rfl 23 false 131 (.bool true) rfl rfl (by kernel_rfl) (by intro h; cases h) rfl
                      · exact zsk rfl 23 false 131 (.bool true) rfl rfl (by kernel_rfl) (by intro h; cases h) rfl
                      · exact zsk rfl 23 false 131 (.bool true) rfl rfl (by kernel_rfl) (by intro h; cases h) rfl
                      · exact zsk rfl 23 false 131 (.bool true) rfl rfl (by kernel_rfl) (by intro h; cases h) rfl
                      · exact step_pick rfl trivial _ _ _ true rfl (by kernel_rfl) (by kernel_rfl)
                      · exact zmv rfl trivial _ rfl (by kernel_rfl)
                      · exact zsk rfl 32 false 140 (.bool true) rfl rfl (by kernel_rfl) (by intro h; cases h) rfl
                      · exact zsk rfl 32 false 140 (.bool true) rfl rfl (by kernel_rfl) (by intro h; cases h) rfl
                      · exact zsk rfl 32 false 140 (.bool true) rfl rfl (by kernel_rfl) (by intro h; cases h) rfl
                      · exact zsk rfl 32 false 140 (.bool true) rfl rfl (by kernel_rfl) (by intro h; cases h) rfl
                      · exact zsk rfl 32 false 140 (.bool true) rfl rfl (by kernel_rfl) (by intro h; cases h) rfl
                      · exact zsk rfl 32 false 140 (.bool true) rfl rfl (by kernel_rfl) (by intro h; cases h) rfl
                      · exact zsk rfl 32 false 140 (.bool true) rfl rfl (by kernel_rfl) (by intro h; cases h) rfl
                      · exact step_pick rfl trivial _ _ _ true rfl (by kernel_rfl) (by kernel_rfl)
                      · exact zmv rfl trivial _ rfl (by kernel_rfl)
                      · exact zsk rfl 41 false 149 (.bool true) rfl rfl (by kernel_rfl) (by intro h; cases h) rfl
                      · exact zsk rfl 41 false 149 (.bool true) rfl rfl (by kernel_rfl) (by intro h; cases h) rfl
                      · exact zsk rfl 41 false 149 (.bool true) rfl rfl (by kernel_rfl) (by intro h; cases h) rfl
                      · exact step_pick rfl trivial _ _ _ true rfl (by kernel_rfl) (by kernel_rfl)
                    intro W hW
                    first | refine hK _ _ ?_ | refine (‹∀ (a : Act) (w : World), Code.wp Try.prog _ _ a w → _›) _ _ ?_ | skip
                    simp only [finL, List.getD_cons_zero, List.getD_cons_succ, Nat.zero_add, Nat.reduceAdd, List.setIfInBounds_toArray, List.set_cons_zero, List.set_cons_succ]
                    go_wp2
                    go_ret
                    exact ho_no (by rw [HO2]; unfold dlw dl1; try simp only [h4_0]; try simp only [h10_0]; try simp only [h10_1]; try simp only [h10_2]; try simp only [h10_3]; rfl) hW.tn
                  | false =>
                    cases h10_4 : decide (ro ≤ u.ask) with
                    | true =>
                      refine wp_region_any hmx ?_
                      refine zwp (fun i__ => ([(.pointer (some ⟨y, 2 + m * 6, none⟩)), (.pointer (some ⟨y, 2 + m * 6, none⟩)), (.pointer (some ⟨y, 2 + m * 6, none⟩)), (.bool false), (.bool false), (.pointer (some ⟨w.heap.size, 2, none⟩)), (.int .i64 li), (.pointer (some ⟨y, 2 + m * 6, none⟩)), (.pointer (some ⟨y, 2 + m * 6, none⟩)), (.pointer (some ⟨y, 2 + m * 6 + 2, none⟩)), (.int .i64 u.most), (.bool false), (.bool false), (.bool false), (.pointer (some ⟨w.heap.size, 3, none⟩)), (.int .i64 ro), (.bool false), (.bool false), (.bool false), (.pointer (some ⟨w.heap.size, 3, none⟩)), (.int .i64 ro), (.bool false), (.bool false), (.bool false), (.pointer (some ⟨w.heap.size, 3, none⟩)), (.int .i64 ro), (.pointer (some ⟨y, 2 + m * 6, none⟩)), (.pointer (some ⟨y, 2 + m * 6, none⟩)), (.pointer (some ⟨y, 2 + m * 6 + 4, none⟩)), (.int .i64 u.ask), (.bool true), (.bool true), (.bool true), undef, undef, undef, undef, undef, undef, undef, (.bool true), (.bool true), undef, undef, undef, (.bool true)] : List Value).getD i__ undef) (fun V => JH w y w.heap.size n f D ⟨1, nd, li, ro, ta, of, du, he, un⟩ V) (by kernel_rfl) (hJ6.carry (Below.refl _ _).drew) ?_ ?_
                      · refine (sqc ?_ (sqc ?_ (sqc ?_ (sqc ?_ (sqc ?_ (sqc ?_ (sqc ?_ (sqc ?_ (sqc ?_ (sqc ?_ (sqc ?_ (sqc ?_ (sqc ?_ (sqc ?_ (sqc ?_ (sqc ?_ (sqc ?_ (sqc ?_ (sqc ?_ (sqc ?_ (sqc ?_ (sqc ?_ (sqc ?_ (sqc ?_ (sqc ?_ (sqc ?_ (sqc ?_ (sqc ?_ (sqc ?_ (sqc ?_ (sqc ?_ (sqc ?_ (sqc ?_ (sqc ?_ (sqc ?_ (sqc ?_ (sqc ?_ (sqc ?_ (sqc ?_ (sqc ?_ (sqc ?_ (sqc ?_ (sqc ?_ (sqc ?_ (sqc ?_ (sqc ?_ trivial))))))))))))))))))))))))))))))))))))))))))))))
                        · exact zmv rfl trivial _ rfl (by kernel_rfl)
                        · exact znc rfl trivial _ _ _ rfl rfl rfl
                        · exact zfa rfl trivial _ _ _ _ rfl rfl (fun w hw => faM0 w _ _)
                        · exact zld rfl trivial _ _ _ rfl rfl (fun w hw => by rw [← h10_0]; exact load_bo (hw.de.cn hm (j := 0) (by decide) rfl))
                        · exact zmv rfl trivial _ rfl (by kernel_rfl)
                        · exact zfa rfl ⟨_, rfl, by kernel_rfl⟩ _ _ _ _ rfl rfl (fun w hw => faE2 w _ _)
                        · exact zld rfl ⟨_, rfl, by kernel_rfl⟩ _ _ _ rfl rfl (fun w hw => load_in ((zca hw.bx 2).trans rfl))
                        · exact zmv rfl ⟨_, rfl, by kernel_rfl⟩ _ rfl (by kernel_rfl)
                        · exact znc rfl ⟨_, rfl, by kernel_rfl⟩ _ _ _ rfl rfl rfl
                        · exact zfa rfl ⟨_, rfl, by kernel_rfl⟩ _ _ _ _ rfl rfl (fun w hw => faM2 w _ _)
                        · exact zld rfl ⟨_, rfl, by kernel_rfl⟩ _ _ _ rfl rfl (fun w hw => load_in (hw.de.cn hm (j := 2) (by decide) rfl))
                        · exact zbo rfl ⟨_, rfl, by kernel_rfl⟩ _ _ _ _ _ _ _ rfl rfl rfl (fun w hw => by rw [← h10_1]; exact bin_leq _ _ _)
                        · exact step_pick rfl trivial _ _ _ false rfl (by kernel_rfl) (by kernel_rfl)
                        · exact zmv rfl trivial _ rfl (by kernel_rfl)
                        · exact zfa rfl ⟨_, rfl, by kernel_rfl⟩ _ _ _ _ rfl rfl (fun w hw => faE3 w _ _)
                        · exact zld rfl ⟨_, rfl, by kernel_rfl⟩ _ _ _ rfl rfl (fun w hw => load_in ((zca hw.bx 3).trans rfl))
                        · exact zbo rfl ⟨_, rfl, by kernel_rfl⟩ _ _ _ _ _ _ _ rfl rfl rfl (fun w hw => by rw [← h10_2]; exact bin_lss _ _ _)
                        · exact step_pick rfl trivial _ _ _ false rfl (by kernel_rfl) (by kernel_rfl)
                        · exact zmv rfl trivial _ rfl (by kernel_rfl)
                        · exact zfa rfl ⟨_, rfl, by kernel_rfl⟩ _ _ _ _ rfl rfl (fun w hw => faE3 w _ _)
                        · exact zld rfl ⟨_, rfl, by kernel_rfl⟩ _ _ _ rfl rfl (fun w hw => load_in ((zca hw.bx 3).trans rfl))
                        · exact zbo rfl ⟨_, rfl, by kernel_rfl⟩ _ _ _ _ _ _ _ rfl rfl rfl (fun w hw => by rw [← h10_3]; exact bin_gtr _ _ _)
                        · exact step_pick rfl trivial _ _ _ false rfl (by kernel_rfl) (by kernel_rfl)
                        · exact zmv rfl trivial _ rfl (by kernel_rfl)
                        · exact zfa rfl ⟨_, rfl, by kernel_rfl⟩ _ _ _ _ rfl rfl (fun w hw => faE3 w _ _)
                        · exact zld rfl ⟨_, rfl, by kernel_rfl⟩ _ _ _ rfl rfl (fun w hw => load_in ((zca hw.bx 3).trans rfl))
                        · exact zmv rfl ⟨_, rfl, by kernel_rfl⟩ _ rfl (by kernel_rfl)
                        · exact znc rfl ⟨_, rfl, by kernel_rfl⟩ _ _ _ rfl rfl rfl
                        · exact zfa rfl ⟨_, rfl, by kernel_rfl⟩ _ _ _ _ rfl rfl (fun w hw => faM4 w _ _)
                        · exact zld rfl ⟨_, rfl, by kernel_rfl⟩ _ _ _ rfl rfl (fun w hw => load_in (hw.de.cn hm (j := 4) (by decide) rfl))
                        · exact zbo rfl ⟨_, rfl, by kernel_rfl⟩ _ _ _ _ _ _ _ rfl rfl rfl (fun w hw => by rw [← h10_4]; exact bin_leq _ _ _)
                        · exact step_pick rfl trivial _ _ _ false rfl (by kernel_rfl) (by kernel_rfl)
                        · exact zmv rfl trivial _ rfl (by kernel_rfl)
                        · exact zsk rfl 32 false 140 (.bool true) rfl rfl (by kernel_rfl) (by intro h; cases h) rfl
                        · exact zsk rfl 32 false 140 (.bool true) rfl rfl (by kernel_rfl) (by intro h; cases h) rfl
                        · exact zsk rfl 32 false 140 (.bool true) rfl rfl (by kernel_rfl) (by intro h; cases h) rfl
                        · exact zsk rfl 32 false 140 (.bool true) rfl rfl (by kernel_rfl) (by intro h; cases h) rfl
                        · exact zsk rfl 32 false 140 (.bool true) rfl rfl (by kernel_rfl) (by intro h; cases h) rfl
                        · exact zsk rfl 32 false 140 (.bool true) rfl rfl (by kernel_rfl) (by intro h; cases h) rfl
                        · exact zsk rfl 32 false 140 (.bool true) rfl rfl (by kernel_rfl) (by intro h; cases h) rfl
                        · exact step_pick rfl trivial _ _ _ true rfl (by kernel_rfl) (by kernel_rfl)
                        · exact zmv rfl trivial _ rfl (by kernel_rfl)
                        · exact zsk rfl 41 false 149 (.bool true) rfl rfl (by kernel_rfl) (by intro h; cases h) rfl
                        · exact zsk rfl 41 false 149 (.bool true) rfl rfl (by kernel_rfl) (by intro h; cases h) rfl
                        · exact zsk rfl 41 false 149 (.bool true) rfl rfl (by kernel_rfl) (by intro h; cases h) rfl
                        · exact step_pick rfl trivial _ _ _ true rfl (by kernel_rfl) (by kernel_rfl)
                      intro W hW
                      first | refine hK _ _ ?_ | refine (‹∀ (a : Act) (w : World), Code.wp Try.prog _ _ a w → _›) _ _ ?_ | skip
                      simp only [finL, List.getD_cons_zero, List.getD_cons_succ, Nat.zero_add, Nat.reduceAdd, List.setIfInBounds_toArray, List.set_cons_zero, List.set_cons_succ]
                      go_wp2
                      go_ret
                      exact ho_no (by rw [HO2]; unfold dlw dl1; try simp only [h4_0]; try simp only [h10_0]; try simp only [h10_1]; try simp only [h10_2]; try simp only [h10_3]; try simp only [h10_4]; rfl) hW.tn
                    | false =>
                      cases h10_5 : decide (ta < u.tag) with
                      | true =>
                        refine wp_region_any hmx ?_
                        refine zwp (fun i__ => ([(.pointer (some ⟨y, 2 + m * 6, none⟩)), (.pointer (some ⟨y, 2 + m * 6, none⟩)), (.pointer (some ⟨y, 2 + m * 6, none⟩)), (.bool false), (.bool false), (.pointer (some ⟨w.heap.size, 2, none⟩)), (.int .i64 li), (.pointer (some ⟨y, 2 + m * 6, none⟩)), (.pointer (some ⟨y, 2 + m * 6, none⟩)), (.pointer (some ⟨y, 2 + m * 6 + 2, none⟩)), (.int .i64 u.most), (.bool false), (.bool false), (.bool false), (.pointer (some ⟨w.heap.size, 3, none⟩)), (.int .i64 ro), (.bool false), (.bool false), (.bool false), (.pointer (some ⟨w.heap.size, 3, none⟩)), (.int .i64 ro), (.bool false), (.bool false), (.bool false), (.pointer (some ⟨w.heap.size, 3, none⟩)), (.int .i64 ro), (.pointer (some ⟨y, 2 + m * 6, none⟩)), (.pointer (some ⟨y, 2 + m * 6, none⟩)), (.pointer (some ⟨y, 2 + m * 6 + 4, none⟩)), (.int .i64 u.ask), (.bool false), (.bool false), (.bool false), (.pointer (some ⟨w.heap.size, 4, none⟩)), (.int .i64 ta), (.pointer (some ⟨y, 2 + m * 6, none⟩)), (.pointer (some ⟨y, 2 + m * 6, none⟩)), (.pointer (some ⟨y, 2 + m * 6 + 5, none⟩)), (.int .i64 u.tag), (.bool true), (.bool true), (.bool true), undef, undef, undef, (.bool true)] : List Value).getD i__ undef) (fun V => JH w y w.heap.size n f D ⟨1, nd, li, ro, ta, of, du, he, un⟩ V) (by kernel_rfl) (hJ6.carry (Below.refl _ _).drew) ?_ ?_
                        · refine (sqc ?_ (sqc ?_ (sqc ?_ (sqc ?_ (sqc ?_ (sqc ?_ (sqc ?_ (sqc ?_ (sqc ?_ (sqc ?_ (sqc ?_ (sqc ?_ (sqc ?_ (sqc ?_ (sqc ?_ (sqc ?_ (sqc ?_ (sqc ?_ (sqc ?_ (sqc ?_ (sqc ?_ (sqc ?_ (sqc ?_ (sqc ?_ (sqc ?_ (sqc ?_ (sqc ?_ (sqc ?_ (sqc ?_ (sqc ?_ (sqc ?_ (sqc ?_ (sqc ?_ (sqc ?_ (sqc ?_ (sqc ?_ (sqc ?_ (sqc ?_ (sqc ?_ (sqc ?_ (sqc ?_ (sqc ?_ (sqc ?_ (sqc ?_ (sqc ?_ (sqc ?_ trivial))))))))))))))))))))))))))))))))))))))))))))))
                          · exact zmv rfl trivial _ rfl (by kernel_rfl)
                          · exact znc rfl trivial _ _ _ rfl rfl rfl
                          · exact zfa rfl trivial _ _ _ _ rfl rfl (fun w hw => faM0 w _ _)
                          · exact zld rfl trivial _ _ _ rfl rfl (fun w hw => by rw [← h10_0]; exact load_bo (hw.de.cn hm (j := 0) (by decide) rfl))
                          · exact zmv rfl trivial _ rfl (by kernel_rfl)
                          · exact zfa rfl ⟨_, rfl, by kernel_rfl⟩ _ _ _ _ rfl rfl (fun w hw => faE2 w _ _)
                          · exact zld rfl ⟨_, rfl, by kernel_rfl⟩ _ _ _ rfl rfl (fun w hw => load_in ((zca hw.bx 2).trans rfl))
                          · exact zmv rfl ⟨_, rfl, by kernel_rfl⟩ _ rfl (by kernel_rfl)
                          · exact znc rfl ⟨_, rfl, by kernel_rfl⟩ _ _ _ rfl rfl rfl
                          · exact zfa rfl ⟨_, rfl, by kernel_rfl⟩ _ _ _ _ rfl rfl (fun w hw => faM2 w _ _)
                          · exact zld rfl ⟨_, rfl, by kernel_rfl⟩ _ _ _ rfl rfl (fun w hw => load_in (hw.de.cn hm (j := 2) (by decide) rfl))
                          · exact zbo rfl ⟨_, rfl, by kernel_rfl⟩ _ _ _ _ _ _ _ rfl rfl rfl (fun w hw => by rw [← h10_1]; exact bin_leq _ _ _)
                          · exact step_pick rfl trivial _ _ _ false rfl (by kernel_rfl) (by kernel_rfl)
                          · exact zmv rfl trivial _ rfl (by kernel_rfl)
                          · exact zfa rfl ⟨_, rfl, by kernel_rfl⟩ _ _ _ _ rfl rfl (fun w hw => faE3 w _ _)
                          · exact zld rfl ⟨_, rfl, by kernel_rfl⟩ _ _ _ rfl rfl (fun w hw => load_in ((zca hw.bx 3).trans rfl))
                          · exact zbo rfl ⟨_, rfl, by kernel_rfl⟩ _ _ _ _ _ _ _ rfl rfl rfl (fun w hw => by rw [← h10_2]; exact bin_lss _ _ _)
                          · exact step_pick rfl trivial _ _ _ false rfl (by kernel_rfl) (by kernel_rfl)
                          · exact zmv rfl trivial _ rfl (by kernel_rfl)
                          · exact zfa rfl ⟨_, rfl, by kernel_rfl⟩ _ _ _ _ rfl rfl (fun w hw => faE3 w _ _)
                          · exact zld rfl ⟨_, rfl, by kernel_rfl⟩ _ _ _ rfl rfl (fun w hw => load_in ((zca hw.bx 3).trans rfl))
                          · exact zbo rfl ⟨_, rfl, by kernel_rfl⟩ _ _ _ _ _ _ _ rfl rfl rfl (fun w hw => by rw [← h10_3]; exact bin_gtr _ _ _)
                          · exact step_pick rfl trivial _ _ _ false rfl (by kernel_rfl) (by kernel_rfl)
                          · exact zmv rfl trivial _ rfl (by kernel_rfl)
                          · exact zfa rfl ⟨_, rfl, by kernel_rfl⟩ _ _ _ _ rfl rfl (fun w hw => faE3 w _ _)
                          · exact zld rfl ⟨_, rfl, by kernel_rfl⟩ _ _ _ rfl rfl (fun w hw => load_in ((zca hw.bx 3).trans rfl))
                          · exact zmv rfl ⟨_, rfl, by kernel_rfl⟩ _ rfl (by kernel_rfl)
                          · exact znc rfl ⟨_, rfl, by kernel_rfl⟩ _ _ _ rfl rfl rfl
                          · exact zfa rfl ⟨_, rfl, by kernel_rfl⟩ _ _ _ _ rfl rfl (fun w hw => faM4 w _ _)
                          · exact zld rfl ⟨_, rfl, by kernel_rfl⟩ _ _ _ rfl rfl (fun w hw => load_in (hw.de.cn hm (j := 4) (by decide) rfl))
                          · exact zbo rfl ⟨_, rfl, by kernel_rfl⟩ _ _ _ _ _ _ _ rfl rfl rfl (fun w hw => by rw [← h10_4]; exact bin_leq _ _ _)
                          · exact step_pick rfl trivial _ _ _ false rfl (by kernel_rfl) (by kernel_rfl)
                          · exact zmv rfl trivial _ rfl (by kernel_rfl)
                          · exact zfa rfl ⟨_, rfl, by kernel_rfl⟩ _ _ _ _ rfl rfl (fun w hw => faE4 w _ _)
                          · exact zld rfl ⟨_, rfl, by kernel_rfl⟩ _ _ _ rfl rfl (fun w hw => load_in ((zca hw.bx 4).trans rfl))
                          · exact zmv rfl ⟨_, rfl, by kernel_rfl⟩ _ rfl (by kernel_rfl)
                          · exact znc rfl ⟨_, rfl, by kernel_rfl⟩ _ _ _ rfl rfl rfl
                          · exact zfa rfl ⟨_, rfl, by kernel_rfl⟩ _ _ _ _ rfl rfl (fun w hw => faM5 w _ _)
                          · exact zld rfl ⟨_, rfl, by kernel_rfl⟩ _ _ _ rfl rfl (fun w hw => load_in (hw.de.cn hm (j := 5) (by decide) rfl))
                          · exact zbo rfl ⟨_, rfl, by kernel_rfl⟩ _ _ _ _ _ _ _ rfl rfl rfl (fun w hw => by rw [← h10_5]; exact bin_lss _ _ _)
                          · exact step_pick rfl trivial _ _ _ false rfl (by kernel_rfl) (by kernel_rfl)
                          · exact zmv rfl trivial _ rfl (by kernel_rfl)
                          · exact zsk rfl 41 false 149 (.bool true) rfl rfl (by kernel_rfl) (by intro h; cases h) rfl
                          · exact zsk rfl 41 false 149 (.bool true) rfl rfl (by kernel_rfl) (by intro h; cases h) rfl
                          · exact zsk rfl 41 false 149 (.bool true) rfl rfl (by kernel_rfl) (by intro h; cases h) rfl
                          · exact step_pick rfl trivial _ _ _ true rfl (by kernel_rfl) (by kernel_rfl)
                        intro W hW
                        first | refine hK _ _ ?_ | refine (‹∀ (a : Act) (w : World), Code.wp Try.prog _ _ a w → _›) _ _ ?_ | skip
                        simp only [finL, List.getD_cons_zero, List.getD_cons_succ, Nat.zero_add, Nat.reduceAdd, List.setIfInBounds_toArray, List.set_cons_zero, List.set_cons_succ]
                        go_wp2
                        go_ret
                        exact ho_no (by rw [HO2]; unfold dlw dl1; try simp only [h4_0]; try simp only [h10_0]; try simp only [h10_1]; try simp only [h10_2]; try simp only [h10_3]; try simp only [h10_4]; try simp only [h10_5]; rfl) hW.tn
                      | false =>
                        cases h10_6 : decide (ta > 1048576) with
                        | true =>
                          refine wp_region_any hmx ?_
                          refine zwp (fun i__ => ([(.pointer (some ⟨y, 2 + m * 6, none⟩)), (.pointer (some ⟨y, 2 + m * 6, none⟩)), (.pointer (some ⟨y, 2 + m * 6, none⟩)), (.bool false), (.bool false), (.pointer (some ⟨w.heap.size, 2, none⟩)), (.int .i64 li), (.pointer (some ⟨y, 2 + m * 6, none⟩)), (.pointer (some ⟨y, 2 + m * 6, none⟩)), (.pointer (some ⟨y, 2 + m * 6 + 2, none⟩)), (.int .i64 u.most), (.bool false), (.bool false), (.bool false), (.pointer (some ⟨w.heap.size, 3, none⟩)), (.int .i64 ro), (.bool false), (.bool false), (.bool false), (.pointer (some ⟨w.heap.size, 3, none⟩)), (.int .i64 ro), (.bool false), (.bool false), (.bool false), (.pointer (some ⟨w.heap.size, 3, none⟩)), (.int .i64 ro), (.pointer (some ⟨y, 2 + m * 6, none⟩)), (.pointer (some ⟨y, 2 + m * 6, none⟩)), (.pointer (some ⟨y, 2 + m * 6 + 4, none⟩)), (.int .i64 u.ask), (.bool false), (.bool false), (.bool false), (.pointer (some ⟨w.heap.size, 4, none⟩)), (.int .i64 ta), (.pointer (some ⟨y, 2 + m * 6, none⟩)), (.pointer (some ⟨y, 2 + m * 6, none⟩)), (.pointer (some ⟨y, 2 + m * 6 + 5, none⟩)), (.int .i64 u.tag), (.bool false), (.bool false), (.bool false), (.pointer (some ⟨w.heap.size, 4, none⟩)), (.int .i64 ta), (.bool true), (.bool true)] : List Value).getD i__ undef) (fun V => JH w y w.heap.size n f D ⟨1, nd, li, ro, ta, of, du, he, un⟩ V) (by kernel_rfl) (hJ6.carry (Below.refl _ _).drew) ?_ ?_
                          · refine (sqc ?_ (sqc ?_ (sqc ?_ (sqc ?_ (sqc ?_ (sqc ?_ (sqc ?_ (sqc ?_ (sqc ?_ (sqc ?_ (sqc ?_ (sqc ?_ (sqc ?_ (sqc ?_ (sqc ?_ (sqc ?_ (sqc ?_ (sqc ?_ (sqc ?_ (sqc ?_ (sqc ?_ (sqc ?_ (sqc ?_ (sqc ?_ (sqc ?_ (sqc ?_ (sqc ?_ (sqc ?_ (sqc ?_ (sqc ?_ (sqc ?_ (sqc ?_ (sqc ?_ (sqc ?_ (sqc ?_ (sqc ?_ (sqc ?_ (sqc ?_ (sqc ?_ (sqc ?_ (sqc ?_ (sqc ?_ (sqc ?_ (sqc ?_ (sqc ?_ (sqc ?_ trivial))))))))))))))))))))))))))))))))))))))))))))))
                            · exact zmv rfl trivial _ rfl (by kernel_rfl)
                            · exact znc rfl trivial _ _ _ rfl rfl rfl
                            · exact zfa rfl trivial _ _ _ _ rfl rfl (fun w hw => faM0 w _ _)
                            · exact zld rfl trivial _ _ _ rfl rfl (fun w hw => by rw [← h10_0]; exact load_bo (hw.de.cn hm (j := 0) (by decide) rfl))
                            · exact zmv rfl trivial _ rfl (by kernel_rfl)
                            · exact zfa rfl ⟨_, rfl, by kernel_rfl⟩ _ _ _ _ rfl rfl (fun w hw => faE2 w _ _)
                            · exact zld rfl ⟨_, rfl, by kernel_rfl⟩ _ _ _ rfl rfl (fun w hw => load_in ((zca hw.bx 2).trans rfl))
                            · exact zmv rfl ⟨_, rfl, by kernel_rfl⟩ _ rfl (by kernel_rfl)
                            · exact znc rfl ⟨_, rfl, by kernel_rfl⟩ _ _ _ rfl rfl rfl
                            · exact zfa rfl ⟨_, rfl, by kernel_rfl⟩ _ _ _ _ rfl rfl (fun w hw => faM2 w _ _)
                            · exact zld rfl ⟨_, rfl, by kernel_rfl⟩ _ _ _ rfl rfl (fun w hw => load_in (hw.de.cn hm (j := 2) (by decide) rfl))
                            · exact zbo rfl ⟨_, rfl, by kernel_rfl⟩ _ _ _ _ _ _ _ rfl rfl rfl (fun w hw => by rw [← h10_1]; exact bin_leq _ _ _)
                            · exact step_pick rfl trivial _ _ _ false rfl (by kernel_rfl) (by kernel_rfl)
                            · exact zmv rfl trivial _ rfl (by kernel_rfl)
                            · exact zfa rfl ⟨_, rfl, by kernel_rfl⟩ _ _ _ _ rfl rfl (fun w hw => faE3 w _ _)
                            · exact zld rfl ⟨_, rfl, by kernel_rfl⟩ _ _ _ rfl rfl (fun w hw => load_in ((zca hw.bx 3).trans rfl))
                            · exact zbo rfl ⟨_, rfl, by kernel_rfl⟩ _ _ _ _ _ _ _ rfl rfl rfl (fun w hw => by rw [← h10_2]; exact bin_lss _ _ _)
                            · exact step_pick rfl trivial _ _ _ false rfl (by kernel_rfl) (by kernel_rfl)
                            · exact zmv rfl trivial _ rfl (by kernel_rfl)
                            · exact zfa rfl ⟨_, rfl, by kernel_rfl⟩ _ _ _ _ rfl rfl (fun w hw => faE3 w _ _)
                            · exact zld rfl ⟨_, rfl, by kernel_rfl⟩ _ _ _ rfl rfl (fun w hw => load_in ((zca hw.bx 3).trans rfl))
                            · exact zbo rfl ⟨_, rfl, by kernel_rfl⟩ _ _ _ _ _ _ _ rfl rfl rfl (fun w hw => by rw [← h10_3]; exact bin_gtr _ _ _)
                            · exact step_pick rfl trivial _ _ _ false rfl (by kernel_rfl) (by kernel_rfl)
                            · exact zmv rfl trivial _ rfl (by kernel_rfl)
                            · exact zfa rfl ⟨_, rfl, by kernel_rfl⟩ _ _ _ _ rfl rfl (fun w hw => faE3 w _ _)
                            · exact zld rfl ⟨_, rfl, by kernel_rfl⟩ _ _ _ rfl rfl (fun w hw => load_in ((zca hw.bx 3).trans rfl))
                            · exact zmv rfl ⟨_, rfl, by kernel_rfl⟩ _ rfl (by kernel_rfl)
                            · exact znc rfl ⟨_, rfl, by kernel_rfl⟩ _ _ _ rfl rfl rfl
                            · exact zfa rfl ⟨_, rfl, by kernel_rfl⟩ _ _ _ _ rfl rfl (fun w hw => faM4 w _ _)
                            · exact zld rfl ⟨_, rfl, by kernel_rfl⟩ _ _ _ rfl rfl (fun w hw => load_in (hw.de.cn hm (j := 4) (by decide) rfl))
                            · exact zbo rfl ⟨_, rfl, by kernel_rfl⟩ _ _ _ _ _ _ _ rfl rfl rfl (fun w hw => by rw [← h10_4]; exact bin_leq _ _ _)
                            · exact step_pick rfl trivial _ _ _ false rfl (by kernel_rfl) (by kernel_rfl)
                            · exact zmv rfl trivial _ rfl (by kernel_rfl)
                            · exact zfa rfl ⟨_, rfl, by kernel_rfl⟩ _ _ _ _ rfl rfl (fun w hw => faE4 w _ _)
                            · exact zld rfl ⟨_, rfl, by kernel_rfl⟩ _ _ _ rfl rfl (fun w hw => load_in ((zca hw.bx 4).trans rfl))
                            · exact zmv rfl ⟨_, rfl, by kernel_rfl⟩ _ rfl (by kernel_rfl)
                            · exact znc rfl ⟨_, rfl, by kernel_rfl⟩ _ _ _ rfl rfl rfl
                            · exact zfa rfl ⟨_, rfl, by kernel_rfl⟩ _ _ _ _ rfl rfl (fun w hw => faM5 w _ _)
                            · exact zld rfl ⟨_, rfl, by kernel_rfl⟩ _ _ _ rfl rfl (fun w hw => load_in (hw.de.cn hm (j := 5) (by decide) rfl))
                            · exact zbo rfl ⟨_, rfl, by kernel_rfl⟩ _ _ _ _ _ _ _ rfl rfl rfl (fun w hw => by rw [← h10_5]; exact bin_lss _ _ _)
                            · exact step_pick rfl trivial _ _ _ false rfl (by kernel_rfl) (by kernel_rfl)
                            · exact zmv rfl trivial _ rfl (by kernel_rfl)
                            · exact zfa rfl ⟨_, rfl, by kernel_rfl⟩ _ _ _ _ rfl rfl (fun w hw => faE4 w _ _)
                            · exact zld rfl ⟨_, rfl, by kernel_rfl⟩ _ _ _ rfl rfl (fun w hw => load_in ((zca hw.bx 4).trans rfl))
                            · exact zbo rfl ⟨_, rfl, by kernel_rfl⟩ _ _ _ _ _ _ _ rfl rfl rfl (fun w hw => by rw [← h10_6]; exact bin_gtr _ _ _)
                            · exact step_pick rfl trivial _ _ _ false rfl (by kernel_rfl) (by kernel_rfl)
                          intro W hW
                          first | refine hK _ _ ?_ | refine (‹∀ (a : Act) (w : World), Code.wp Try.prog _ _ a w → _›) _ _ ?_ | skip
                          simp only [finL, List.getD_cons_zero, List.getD_cons_succ, Nat.zero_add, Nat.reduceAdd, List.setIfInBounds_toArray, List.set_cons_zero, List.set_cons_succ]
                          go_wp2
                          go_ret
                          exact ho_no (by rw [HO2]; unfold dlw dl1; try simp only [h4_0]; try simp only [h10_0]; try simp only [h10_1]; try simp only [h10_2]; try simp only [h10_3]; try simp only [h10_4]; try simp only [h10_5]; try simp only [h10_6]; rfl) hW.tn
                        | false =>
                          refine wp_region_any hmx ?_
                          refine zwp (fun i__ => ([(.pointer (some ⟨y, 2 + m * 6, none⟩)), (.pointer (some ⟨y, 2 + m * 6, none⟩)), (.pointer (some ⟨y, 2 + m * 6, none⟩)), (.bool false), (.bool false), (.pointer (some ⟨w.heap.size, 2, none⟩)), (.int .i64 li), (.pointer (some ⟨y, 2 + m * 6, none⟩)), (.pointer (some ⟨y, 2 + m * 6, none⟩)), (.pointer (some ⟨y, 2 + m * 6 + 2, none⟩)), (.int .i64 u.most), (.bool false), (.bool false), (.bool false), (.pointer (some ⟨w.heap.size, 3, none⟩)), (.int .i64 ro), (.bool false), (.bool false), (.bool false), (.pointer (some ⟨w.heap.size, 3, none⟩)), (.int .i64 ro), (.bool false), (.bool false), (.bool false), (.pointer (some ⟨w.heap.size, 3, none⟩)), (.int .i64 ro), (.pointer (some ⟨y, 2 + m * 6, none⟩)), (.pointer (some ⟨y, 2 + m * 6, none⟩)), (.pointer (some ⟨y, 2 + m * 6 + 4, none⟩)), (.int .i64 u.ask), (.bool false), (.bool false), (.bool false), (.pointer (some ⟨w.heap.size, 4, none⟩)), (.int .i64 ta), (.pointer (some ⟨y, 2 + m * 6, none⟩)), (.pointer (some ⟨y, 2 + m * 6, none⟩)), (.pointer (some ⟨y, 2 + m * 6 + 5, none⟩)), (.int .i64 u.tag), (.bool false), (.bool false), (.bool false), (.pointer (some ⟨w.heap.size, 4, none⟩)), (.int .i64 ta), (.bool false), (.bool false)] : List Value).getD i__ undef) (fun V => JH w y w.heap.size n f D ⟨1, nd, li, ro, ta, of, du, he, un⟩ V) (by kernel_rfl) (hJ6.carry (Below.refl _ _).drew) ?_ ?_
                          · refine (sqc ?_ (sqc ?_ (sqc ?_ (sqc ?_ (sqc ?_ (sqc ?_ (sqc ?_ (sqc ?_ (sqc ?_ (sqc ?_ (sqc ?_ (sqc ?_ (sqc ?_ (sqc ?_ (sqc ?_ (sqc ?_ (sqc ?_ (sqc ?_ (sqc ?_ (sqc ?_ (sqc ?_ (sqc ?_ (sqc ?_ (sqc ?_ (sqc ?_ (sqc ?_ (sqc ?_ (sqc ?_ (sqc ?_ (sqc ?_ (sqc ?_ (sqc ?_ (sqc ?_ (sqc ?_ (sqc ?_ (sqc ?_ (sqc ?_ (sqc ?_ (sqc ?_ (sqc ?_ (sqc ?_ (sqc ?_ (sqc ?_ (sqc ?_ (sqc ?_ (sqc ?_ trivial))))))))))))))))))))))))))))))))))))))))))))))
                            · exact zmv rfl trivial _ rfl (by kernel_rfl)
                            · exact znc rfl trivial _ _ _ rfl rfl rfl
                            · exact zfa rfl trivial _ _ _ _ rfl rfl (fun w hw => faM0 w _ _)
                            · exact zld rfl trivial _ _ _ rfl rfl (fun w hw => by rw [← h10_0]; exact load_bo (hw.de.cn hm (j := 0) (by decide) rfl))
                            · exact zmv rfl trivial _ rfl (by kernel_rfl)
                            · exact zfa rfl ⟨_, rfl, by kernel_rfl⟩ _ _ _ _ rfl rfl (fun w hw => faE2 w _ _)
                            · exact zld rfl ⟨_, rfl, by kernel_rfl⟩ _ _ _ rfl rfl (fun w hw => load_in ((zca hw.bx 2).trans rfl))
                            · exact zmv rfl ⟨_, rfl, by kernel_rfl⟩ _ rfl (by kernel_rfl)
                            · exact znc rfl ⟨_, rfl, by kernel_rfl⟩ _ _ _ rfl rfl rfl
                            · exact zfa rfl ⟨_, rfl, by kernel_rfl⟩ _ _ _ _ rfl rfl (fun w hw => faM2 w _ _)
                            · exact zld rfl ⟨_, rfl, by kernel_rfl⟩ _ _ _ rfl rfl (fun w hw => load_in (hw.de.cn hm (j := 2) (by decide) rfl))
                            · exact zbo rfl ⟨_, rfl, by kernel_rfl⟩ _ _ _ _ _ _ _ rfl rfl rfl (fun w hw => by rw [← h10_1]; exact bin_leq _ _ _)
                            · exact step_pick rfl trivial _ _ _ false rfl (by kernel_rfl) (by kernel_rfl)
                            · exact zmv rfl trivial _ rfl (by kernel_rfl)
                            · exact zfa rfl ⟨_, rfl, by kernel_rfl⟩ _ _ _ _ rfl rfl (fun w hw => faE3 w _ _)
                            · exact zld rfl ⟨_, rfl, by kernel_rfl⟩ _ _ _ rfl rfl (fun w hw => load_in ((zca hw.bx 3).trans rfl))
                            · exact zbo rfl ⟨_, rfl, by kernel_rfl⟩ _ _ _ _ _ _ _ rfl rfl rfl (fun w hw => by rw [← h10_2]; exact bin_lss _ _ _)
                            · exact step_pick rfl trivial _ _ _ false rfl (by kernel_rfl) (by kernel_rfl)
                            · exact zmv rfl trivial _ rfl (by kernel_rfl)
                            · exact zfa rfl ⟨_, rfl, by kernel_rfl⟩ _ _ _ _ rfl rfl (fun w hw => faE3 w _ _)
                            · exact zld rfl ⟨_, rfl, by kernel_rfl⟩ _ _ _ rfl rfl (fun w hw => load_in ((zca hw.bx 3).trans rfl))
                            · exact zbo rfl ⟨_, rfl, by kernel_rfl⟩ _ _ _ _ _ _ _ rfl rfl rfl (fun w hw => by rw [← h10_3]; exact bin_gtr _ _ _)
                            · exact step_pick rfl trivial _ _ _ false rfl (by kernel_rfl) (by kernel_rfl)
                            · exact zmv rfl trivial _ rfl (by kernel_rfl)
                            · exact zfa rfl ⟨_, rfl, by kernel_rfl⟩ _ _ _ _ rfl rfl (fun w hw => faE3 w _ _)
                            · exact zld rfl ⟨_, rfl, by kernel_rfl⟩ _ _ _ rfl rfl (fun w hw => load_in ((zca hw.bx 3).trans rfl))
                            · exact zmv rfl ⟨_, rfl, by kernel_rfl⟩ _ rfl (by kernel_rfl)
                            · exact znc rfl ⟨_, rfl, by kernel_rfl⟩ _ _ _ rfl rfl rfl
                            · exact zfa rfl ⟨_, rfl, by kernel_rfl⟩ _ _ _ _ rfl rfl (fun w hw => faM4 w _ _)
                            · exact zld rfl ⟨_, rfl, by kernel_rfl⟩ _ _ _ rfl rfl (fun w hw => load_in (hw.de.cn hm (j := 4) (by decide) rfl))
                            · exact zbo rfl ⟨_, rfl, by kernel_rfl⟩ _ _ _ _ _ _ _ rfl rfl rfl (fun w hw => by rw [← h10_4]; exact bin_leq _ _ _)
                            · exact step_pick rfl trivial _ _ _ false rfl (by kernel_rfl) (by kernel_rfl)
                            · exact zmv rfl trivial _ rfl (by kernel_rfl)
                            · exact zfa rfl ⟨_, rfl, by kernel_rfl⟩ _ _ _ _ rfl rfl (fun w hw => faE4 w _ _)
                            · exact zld rfl ⟨_, rfl, by kernel_rfl⟩ _ _ _ rfl rfl (fun w hw => load_in ((zca hw.bx 4).trans rfl))
                            · exact zmv rfl ⟨_, rfl, by kernel_rfl⟩ _ rfl (by kernel_rfl)
                            · exact znc rfl ⟨_, rfl, by kernel_rfl⟩ _ _ _ rfl rfl rfl
                            · exact zfa rfl ⟨_, rfl, by kernel_rfl⟩ _ _ _ _ rfl rfl (fun w hw => faM5 w _ _)
                            · exact zld rfl ⟨_, rfl, by kernel_rfl⟩ _ _ _ rfl rfl (fun w hw => load_in (hw.de.cn hm (j := 5) (by decide) rfl))
                            · exact zbo rfl ⟨_, rfl, by kernel_rfl⟩ _ _ _ _ _ _ _ rfl rfl rfl (fun w hw => by rw [← h10_5]; exact bin_lss _ _ _)
                            · exact step_pick rfl trivial _ _ _ false rfl (by kernel_rfl) (by kernel_rfl)
                            · exact zmv rfl trivial _ rfl (by kernel_rfl)
                            · exact zfa rfl ⟨_, rfl, by kernel_rfl⟩ _ _ _ _ rfl rfl (fun w hw => faE4 w _ _)
                            · exact zld rfl ⟨_, rfl, by kernel_rfl⟩ _ _ _ rfl rfl (fun w hw => load_in ((zca hw.bx 4).trans rfl))
                            · exact zbo rfl ⟨_, rfl, by kernel_rfl⟩ _ _ _ _ _ _ _ rfl rfl rfl (fun w hw => by rw [← h10_6]; exact bin_gtr _ _ _)
                            · exact step_pick rfl trivial _ _ _ false rfl (by kernel_rfl) (by kernel_rfl)
                          intro W hW
                          first | refine hK _ _ ?_ | refine (‹∀ (a : Act) (w : World), Code.wp Try.prog _ _ a w → _›) _ _ ?_ | skip
                          simp only [finL, List.getD_cons_zero, List.getD_cons_succ, Nat.zero_add, Nat.reduceAdd, List.setIfInBounds_toArray, List.set_cons_zero, List.set_cons_succ]
                          obtain ⟨W7, rfl⟩ : ∃ V, V = W := ⟨_, rfl⟩
                          have hJ7 := hW
                          clear hW
                          go_wp2
                          refine wp_region_any hmx ?_
                          refine zwt (G := Unit) (fun g i__ => ([(.pointer (some ⟨y, 2 + m * 6, none⟩)), (.pointer (some ⟨y, 2 + m * 6, none⟩)), (.pointer (some ⟨y, 2 + m * 6, none⟩)), (.pointer (some ⟨y, 2 + m * 6, none⟩)), (.pointer (some ⟨y, 2 + m * 6, none⟩)), (.pointer (some ⟨w.heap.size, 2, none⟩)), (.int .i64 li), (.pointer (some ⟨w.heap.size, 2, none⟩)), (.int .i64 li), (.pointer (some ⟨w.heap.size, 3, none⟩)), (.int .i64 ro), (.pointer (some ⟨w.heap.size, 4, none⟩)), (.int .i64 ta), (.pointer (some ⟨y, 2 + m * 6, none⟩)), (.pointer (some ⟨y, 2 + m * 6, none⟩)), undef, (.pointer (some ⟨y, 2 + m * 6, none⟩)), (.pointer (some ⟨y, 2 + m * 6 + 1, none⟩)), undef, (.pointer (some ⟨y, 2 + m * 6, none⟩)), (.pointer (some ⟨y, 2 + m * 6 + 2, none⟩)), undef, (.pointer (some ⟨y, 2 + m * 6, none⟩)), (.pointer (some ⟨y, 2 + m * 6 + 3, none⟩)), undef, (.pointer (some ⟨y, 2 + m * 6, none⟩)), (.pointer (some ⟨y, 2 + m * 6 + 5, none⟩)), undef] : List Value).getD i__ undef) (fun g d V => ∃ u2 : Dn, u2 = ⟨if d 15 = true then true else u.up, if d 18 = true then li else u.life, if d 21 = true then li else u.most, if d 24 = true then ro else u.op, u.ask, if d 27 = true then ta else u.tag⟩ ∧ JH w y w.heap.size n f { D with ds := D.ds.set m u2 } ⟨1, nd, li, ro, ta, of, du, he, un⟩ V) (by kernel_rfl) (()) ⟨u, by simp, by rw [set_self hm]; exact hJ7.carry (Below.refl _ _).drew⟩ ?step1 ?fin1
                          case step1 =>
                            intro i o ho
                            have hi : i < 28 := getElem?_lt ho
                            match i, hi, ho with
                            | 0, _, ho => cases ho; exact zgo fun g d hdep => zmv rfl trivial _ rfl (by kernel_rfl)
                            | 1, _, ho => cases ho; exact zgo fun g d hdep => zmv rfl trivial _ rfl (by kernel_rfl)
                            | 2, _, ho => cases ho; exact zgo fun g d hdep => zmv rfl trivial _ rfl (by kernel_rfl)
                            | 3, _, ho => cases ho; exact zgo fun g d hdep => zmv rfl trivial _ rfl (by kernel_rfl)
                            | 4, _, ho => cases ho; exact zgo fun g d hdep => zmv rfl trivial _ rfl (by kernel_rfl)
                            | 5, _, ho => cases ho; exact zgo fun g d hdep => zfa rfl trivial _ _ _ _ rfl rfl (fun w hw => faE2 w _ _)
                            | 6, _, ho => cases ho; exact zgo fun g d hdep => zld rfl trivial _ _ _ rfl rfl (fun w hw => by obtain ⟨u2, hu2, hw⟩ := hw; exact load_in ((zca hw.bx 2).trans rfl))
                            | 7, _, ho => cases ho; exact zgo fun g d hdep => zfa rfl trivial _ _ _ _ rfl rfl (fun w hw => faE2 w _ _)
                            | 8, _, ho => cases ho; exact zgo fun g d hdep => zld rfl trivial _ _ _ rfl rfl (fun w hw => by obtain ⟨u2, hu2, hw⟩ := hw; exact load_in ((zca hw.bx 2).trans rfl))
                            | 9, _, ho => cases ho; exact zgo fun g d hdep => zfa rfl trivial _ _ _ _ rfl rfl (fun w hw => faE3 w _ _)
                            | 10, _, ho => cases ho; exact zgo fun g d hdep => zld rfl trivial _ _ _ rfl rfl (fun w hw => by obtain ⟨u2, hu2, hw⟩ := hw; exact load_in ((zca hw.bx 3).trans rfl))
                            | 11, _, ho => cases ho; exact zgo fun g d hdep => zfa rfl trivial _ _ _ _ rfl rfl (fun w hw => faE4 w _ _)
                            | 12, _, ho => cases ho; exact zgo fun g d hdep => zld rfl trivial _ _ _ rfl rfl (fun w hw => by obtain ⟨u2, hu2, hw⟩ := hw; exact load_in ((zca hw.bx 4).trans rfl))
                            | 13, _, ho => cases ho; exact zgo fun g d hdep => znc rfl trivial _ _ _ rfl rfl rfl
                            | 14, _, ho => cases ho; exact zgo fun g d hdep => zfa rfl trivial _ _ _ _ rfl rfl (fun w hw => faM0 w _ _)
                            | 15, _, ho => cases ho; exact stepG_store rfl rfl rfl _ _ _ (fun g => .pointer (some ⟨y, 2 + m * 6, none⟩)) (fun g => .bool true) rfl (fun g => by kernel_rfl) (fun g => by kernel_rfl) (fun g d V hJ hun hdep => by obtain ⟨u2, hu2, hJ'⟩ := hJ; refine ⟨_, st_bo (hJ'.de.cn (m := m) (u := u2) (by simp [h.ln, hml]) (j := 0) (by decide) rfl) (hJ'.de.frz _), { u2 with up := true }, ?_, hJ'.put _ _ (hJ'.de.nput2 (by rw [h.ln]; exact hml) (j := 0) (by decide) rfl)⟩; rw [hu2]; simp)
                            | 16, _, ho => cases ho; exact zgo fun g d hdep => znc rfl trivial _ _ _ rfl rfl rfl
                            | 17, _, ho => cases ho; exact zgo fun g d hdep => zfa rfl trivial _ _ _ _ rfl rfl (fun w hw => faM1 w _ _)
                            | 18, _, ho => cases ho; exact stepG_store rfl rfl rfl _ _ _ (fun g => .pointer (some ⟨y, 2 + m * 6 + 1, none⟩)) (fun g => .int .i64 li) rfl (fun g => by kernel_rfl) (fun g => by kernel_rfl) (fun g d V hJ hun hdep => by obtain ⟨u2, hu2, hJ'⟩ := hJ; refine ⟨_, st_in (hJ'.de.cn (m := m) (u := u2) (by simp [h.ln, hml]) (j := 1) (by decide) rfl) (hJ'.de.frz _), { u2 with life := li }, ?_, hJ'.put _ _ (hJ'.de.nput2 (by rw [h.ln]; exact hml) (j := 1) (by decide) rfl)⟩; rw [hu2]; simp)
                            | 19, _, ho => cases ho; exact zgo fun g d hdep => znc rfl trivial _ _ _ rfl rfl rfl
                            | 20, _, ho => cases ho; exact zgo fun g d hdep => zfa rfl trivial _ _ _ _ rfl rfl (fun w hw => faM2 w _ _)
                            | 21, _, ho => cases ho; exact stepG_store rfl rfl rfl _ _ _ (fun g => .pointer (some ⟨y, 2 + m * 6 + 2, none⟩)) (fun g => .int .i64 li) rfl (fun g => by kernel_rfl) (fun g => by kernel_rfl) (fun g d V hJ hun hdep => by obtain ⟨u2, hu2, hJ'⟩ := hJ; refine ⟨_, st_in (hJ'.de.cn (m := m) (u := u2) (by simp [h.ln, hml]) (j := 2) (by decide) rfl) (hJ'.de.frz _), { u2 with most := li }, ?_, hJ'.put _ _ (hJ'.de.nput2 (by rw [h.ln]; exact hml) (j := 2) (by decide) rfl)⟩; rw [hu2]; simp)
                            | 22, _, ho => cases ho; exact zgo fun g d hdep => znc rfl trivial _ _ _ rfl rfl rfl
                            | 23, _, ho => cases ho; exact zgo fun g d hdep => zfa rfl trivial _ _ _ _ rfl rfl (fun w hw => faM3 w _ _)
                            | 24, _, ho => cases ho; exact stepG_store rfl rfl rfl _ _ _ (fun g => .pointer (some ⟨y, 2 + m * 6 + 3, none⟩)) (fun g => .int .i64 ro) rfl (fun g => by kernel_rfl) (fun g => by kernel_rfl) (fun g d V hJ hun hdep => by obtain ⟨u2, hu2, hJ'⟩ := hJ; refine ⟨_, st_in (hJ'.de.cn (m := m) (u := u2) (by simp [h.ln, hml]) (j := 3) (by decide) rfl) (hJ'.de.frz _), { u2 with op := ro }, ?_, hJ'.put _ _ (hJ'.de.nput2 (by rw [h.ln]; exact hml) (j := 3) (by decide) rfl)⟩; rw [hu2]; simp)
                            | 25, _, ho => cases ho; exact zgo fun g d hdep => znc rfl trivial _ _ _ rfl rfl rfl
                            | 26, _, ho => cases ho; exact zgo fun g d hdep => zfa rfl trivial _ _ _ _ rfl rfl (fun w hw => faM5 w _ _)
                            | 27, _, ho => cases ho; exact stepG_store rfl rfl rfl _ _ _ (fun g => .pointer (some ⟨y, 2 + m * 6 + 5, none⟩)) (fun g => .int .i64 ta) rfl (fun g => by kernel_rfl) (fun g => by kernel_rfl) (fun g d V hJ hun hdep => by obtain ⟨u2, hu2, hJ'⟩ := hJ; refine ⟨_, st_in (hJ'.de.cn (m := m) (u := u2) (by simp [h.ln, hml]) (j := 5) (by decide) rfl) (hJ'.de.frz _), { u2 with tag := ta }, ?_, hJ'.put _ _ (hJ'.de.nput2 (by rw [h.ln]; exact hml) (j := 5) (by decide) rfl)⟩; rw [hu2]; simp)
                          intro g d W hall hW
                          first | refine hK _ _ ?_ | refine (‹∀ (a : Act) (w : World), Code.wp Try.prog _ _ a w → _›) _ _ ?_ | skip
                          simp only [finL, List.getD_cons_zero, List.getD_cons_succ, Nat.zero_add, Nat.reduceAdd, List.setIfInBounds_toArray, List.set_cons_zero, List.set_cons_succ]
                          rw [hall 15 (by decide), hall 18 (by decide), hall 21 (by decide), hall 24 (by decide), hall 27 (by decide)] at hW
                          obtain ⟨u2, hu2, hJ8⟩ := hW
                          simp only [if_true] at hu2
                          go_wp2
                          go_ret
                          exact ho_yes (by rw [HO2]; unfold dlw dl1; try simp only [h4_0]; try simp only [h10_0]; try simp only [h10_1]; try simp only [h10_2]; try simp only [h10_3]; try simp only [h10_4]; try simp only [h10_5]; try simp only [h10_6]; rfl) (hu2 ▸ hJ8.de) hJ8.tn
        | false =>
          refine wp_region_any hmx ?_
          refine zwp (fun i__ => ([(.pointer (some ⟨w.heap.size, 0, none⟩)), (.int .i64 1), (.bool false), (.bool false), (.pointer (some ⟨w.heap.size, 0, none⟩)), (.int .i64 1), (.bool false), (.bool false), (.bool false), (.pointer (some ⟨w.heap.size, 1, none⟩)), (.int .i64 nd), (.bool false), (.bool false), (.bool false), (.pointer (some ⟨w.heap.size, 1, none⟩)), (.int .i64 nd), (.pointer (some ⟨y, 0, none⟩)), (.pointer (some ⟨y, 0, none⟩)), (.pointer (some ⟨y, 0, none⟩)), (.int .i64 n), (.bool false), (.bool false), (.bool false), (.pointer (some ⟨w.heap.size, 2, none⟩)), (.int .i64 li), (.bool false), (.bool false), (.bool false), (.pointer (some ⟨w.heap.size, 2, none⟩)), (.int .i64 li), (.bool false), (.bool false), (.bool false), (evV ⟨1, nd, li, ro, ta, of, du, he, un⟩), (.bool false), (.bool true), (.bool true)] : List Value).getD i__ undef) (fun V => JH w y w.heap.size n f D ⟨1, nd, li, ro, ta, of, du, he, un⟩ V) (by kernel_rfl) (hJ0.carry (Below.refl _ _).drew) ?_ ?_
          · refine (sqc ?_ (sqc ?_ (sqc ?_ (sqc ?_ (sqc ?_ (sqc ?_ (sqc ?_ (sqc ?_ (sqc ?_ (sqc ?_ (sqc ?_ (sqc ?_ (sqc ?_ (sqc ?_ (sqc ?_ (sqc ?_ (sqc ?_ (sqc ?_ (sqc ?_ (sqc ?_ (sqc ?_ (sqc ?_ (sqc ?_ (sqc ?_ (sqc ?_ (sqc ?_ (sqc ?_ (sqc ?_ (sqc ?_ (sqc ?_ (sqc ?_ (sqc ?_ (sqc ?_ (sqc ?_ (sqc ?_ (sqc ?_ (sqc ?_ trivial)))))))))))))))))))))))))))))))))))))
            · exact zfa rfl trivial _ _ _ _ rfl rfl (fun w hw => faE0 w _ _)
            · exact zld rfl trivial _ _ _ rfl rfl (fun w hw => load_in ((zca hw.bx 0).trans rfl))
            · exact zbo rfl trivial _ _ _ _ _ _ _ rfl rfl rfl (fun w hw => bin_lss _ _ _)
            · exact zmv rfl trivial _ rfl (by kernel_rfl)
            · exact zfa rfl ⟨_, rfl, by kernel_rfl⟩ _ _ _ _ rfl rfl (fun w hw => faE0 w _ _)
            · exact zld rfl ⟨_, rfl, by kernel_rfl⟩ _ _ _ rfl rfl (fun w hw => load_in ((zca hw.bx 0).trans rfl))
            · exact zbo rfl ⟨_, rfl, by kernel_rfl⟩ _ _ _ _ _ _ _ rfl rfl rfl (fun w hw => bin_gtr _ _ _)
            · exact step_pick rfl trivial _ _ _ false rfl (by kernel_rfl) (by kernel_rfl)
            · exact zmv rfl trivial _ rfl (by kernel_rfl)
            · exact zfa rfl ⟨_, rfl, by kernel_rfl⟩ _ _ _ _ rfl rfl (fun w hw => faE1 w _ _)
            · exact zld rfl ⟨_, rfl, by kernel_rfl⟩ _ _ _ rfl rfl (fun w hw => load_in ((zca hw.bx 1).trans rfl))
            · exact zbo rfl ⟨_, rfl, by kernel_rfl⟩ _ _ _ _ _ _ _ rfl rfl rfl (fun w hw => by rw [← h1_0]; exact bin_lss _ _ _)
            · exact step_pick rfl trivial _ _ _ false rfl (by kernel_rfl) (by kernel_rfl)
            · exact zmv rfl trivial _ rfl (by kernel_rfl)
            · exact zfa rfl ⟨_, rfl, by kernel_rfl⟩ _ _ _ _ rfl rfl (fun w hw => faE1 w _ _)
            · exact zld rfl ⟨_, rfl, by kernel_rfl⟩ _ _ _ rfl rfl (fun w hw => load_in ((zca hw.bx 1).trans rfl))
            · exact zmv rfl ⟨_, rfl, by kernel_rfl⟩ _ rfl (by kernel_rfl)
            · exact znc rfl ⟨_, rfl, by kernel_rfl⟩ _ _ _ rfl rfl rfl
            · exact zfa rfl ⟨_, rfl, by kernel_rfl⟩ _ _ _ _ rfl rfl (fun w hw => faD0 w _ _)
            · exact zld rfl ⟨_, rfl, by kernel_rfl⟩ _ _ _ rfl rfl (fun w hw => load_in hw.de.c0)
            · exact zbo rfl ⟨_, rfl, by kernel_rfl⟩ _ _ _ _ _ _ _ rfl rfl rfl (fun w hw => by rw [← h1_1]; exact bin_geq _ _ _)
            · exact step_pick rfl trivial _ _ _ false rfl (by kernel_rfl) (by kernel_rfl)
            · exact zmv rfl trivial _ rfl (by kernel_rfl)
            · exact zfa rfl ⟨_, rfl, by kernel_rfl⟩ _ _ _ _ rfl rfl (fun w hw => faE2 w _ _)
            · exact zld rfl ⟨_, rfl, by kernel_rfl⟩ _ _ _ rfl rfl (fun w hw => load_in ((zca hw.bx 2).trans rfl))
            · exact zbo rfl ⟨_, rfl, by kernel_rfl⟩ _ _ _ _ _ _ _ rfl rfl rfl (fun w hw => by rw [← h1_2]; exact bin_lss _ _ _)
            · exact step_pick rfl trivial _ _ _ false rfl (by kernel_rfl) (by kernel_rfl)
            · exact zmv rfl trivial _ rfl (by kernel_rfl)
            · exact zfa rfl ⟨_, rfl, by kernel_rfl⟩ _ _ _ _ rfl rfl (fun w hw => faE2 w _ _)
            · exact zld rfl ⟨_, rfl, by kernel_rfl⟩ _ _ _ rfl rfl (fun w hw => load_in ((zca hw.bx 2).trans rfl))
            · exact zbo rfl ⟨_, rfl, by kernel_rfl⟩ _ _ _ _ _ _ _ rfl rfl rfl (fun w hw => by rw [← h1_3]; exact bin_gtr _ _ _)
            · exact step_pick rfl trivial _ _ _ false rfl (by kernel_rfl) (by kernel_rfl)
            · exact zmv rfl trivial _ rfl (by kernel_rfl)
            · exact zld rfl ⟨_, rfl, by kernel_rfl⟩ _ _ _ rfl rfl (fun w hw => load_bx hw.bx)
            · exact zsc rfl ⟨_, rfl, by kernel_rfl⟩ 17 _ _ [(evV ⟨1, nd, li, ro, ta, of, du, he, un⟩)] rfl (by kernel_rfl) (enters_of Try.func17 (by kernel_rfl) rfl) (fun w hw => (rbare_any ⟨1, nd, li, ro, ta, of, du, he, un⟩ hhe hun w).mono (by rintro e w' ⟨rfl, hb⟩; exact ⟨congrArg (fun z => Ending.returned (Value.bool z)) h1_4, hw.carry hb⟩))
            · exact step_unOp rfl ⟨_, rfl, by kernel_rfl⟩ _ _ _ _ rfl rfl (fun w hw => rfl)
            · exact step_pick rfl trivial _ _ _ false rfl (by kernel_rfl) (by kernel_rfl)
          intro W hW
          first | refine hK _ _ ?_ | refine (‹∀ (a : Act) (w : World), Code.wp Try.prog _ _ a w → _›) _ _ ?_ | skip
          simp only [finL, List.getD_cons_zero, List.getD_cons_succ, Nat.zero_add, Nat.reduceAdd, List.setIfInBounds_toArray, List.set_cons_zero, List.set_cons_succ]
          go_wp2
          go_ret
          exact ho_no (by unfold hold dpre; try simp only [h1_0]; try simp only [h1_1]; try simp only [h1_2]; try simp only [h1_3]; try simp only [h1_4]; rfl) hW.tn
end Go.Proofs.Ytifcnnonnocmmaa
