import Derived.Test.YtifcnnonnocmmaaJnJ9
import Derived.Deep.Cut
set_option maxHeartbeats 40000000
set_option maxRecDepth 100000
set_option linter.unusedVariables false
namespace Go.Proofs.Ytifcnnonnocmmaa
open Go.RowKit Go.Shelf Go.Lib
attribute [local go_sem] Oper.semAt_some
theorem s0lt : 0 < S128 := by decide
theorem rbare_1 (nd li ro ta of du : Int) (he un : Nat) (hhe : he < S128) (hun : un < S128) (w : World) : Calls Try.prog 17 #[evV ⟨1, nd, li, ro, ta, of, du, he, un⟩] w fun e w' => e = .returned (.bool (eqEv ⟨1, nd, li, ro, ta, of, du, he, un⟩ (bareE ⟨1, nd, li, ro, ta, of, du, he, un⟩))) ∧ Below w.heap.size w w' := by
 have hmx : Try.prog.follows .mixedOrders = true := by kernel_rfl
 have hJ0 : JX w (w.heap.size) (w.heap.size + 1) (w.heap.size) ⟨1, nd, li, ro, ta, of, du, he, un⟩ ⟨1, nd, li, 0, 0, 0, 0, 0, 0⟩ ((w.alloc (.cells (ecA ⟨1, nd, li, ro, ta, of, du, he, un⟩) 34)).alloc (.cells (ecA ⟨1, nd, li, 0, 0, 0, 0, 0, 0⟩) 34)) := ⟨zoa (zna rfl), zna (by simp), .inl rfl, ((Below.refl _ w).alloc (Nat.le_refl _) _).alloc (by simp) _, by omega, by omega, by omega⟩
 simp only [ecA, wdz] at hJ0
 obtain ⟨y, hy⟩ : ∃ y, y = Value.bool (eqEv ⟨1, nd, li, ro, ta, of, du, he, un⟩ (bareE ⟨1, nd, li, ro, ta, of, du, he, un⟩)) := ⟨_, rfl⟩
 rw [← hy]
 unfold evV ecA
 go_enter Try.func17, Try.ntmps17
 go_wp2
 refine wp_region_any hmx ?_
 refine zwt (G := Unit) (fun g i__ => ([(.pointer (some ⟨w.heap.size, 3, none⟩)), (.int .i64 ro), (.pointer (some ⟨w.heap.size, 4, none⟩)), (.int .i64 ta), (.pointer (some ⟨w.heap.size + 1, 3, none⟩)), undef, (.pointer (some ⟨w.heap.size + 1, 4, none⟩)), undef] : List Value).getD i__ undef) (fun g d V => ∃ e2 : Ev, e2 = ⟨1, nd, li, if d 5 = true then ro else 0, if d 7 = true then ta else 0, 0, 0, 0, 0⟩ ∧ JX w (w.heap.size) (w.heap.size + 1) (w.heap.size) ⟨1, nd, li, ro, ta, of, du, he, un⟩ e2 V) (by kernel_rfl) (()) ⟨⟨1, nd, li, 0, 0, 0, 0, 0, 0⟩, by simp, hJ0.carry (Below.refl _ _).drew⟩ ?step1 ?fin1
 case step1 =>
  intro i o ho
  have hi : i < 8 := getElem?_lt ho
  match i, hi, ho with
  | 0, _, ho => cases ho; exact zgo fun g d hdep => zfa rfl trivial _ _ _ _ rfl rfl (fun w hw => faE3 w _ _)
  | 1, _, ho => cases ho; exact zgo fun g d hdep => zld rfl trivial _ _ _ rfl rfl (fun w hw => by obtain ⟨e2, he2, hw⟩ := hw; exact load_in ((zca hw.bx 3).trans rfl))
  | 2, _, ho => cases ho; exact zgo fun g d hdep => zfa rfl trivial _ _ _ _ rfl rfl (fun w hw => faE4 w _ _)
  | 3, _, ho => cases ho; exact zgo fun g d hdep => zld rfl trivial _ _ _ rfl rfl (fun w hw => by obtain ⟨e2, he2, hw⟩ := hw; exact load_in ((zca hw.bx 4).trans rfl))
  | 4, _, ho => cases ho; exact zgo fun g d hdep => zfa rfl trivial _ _ _ _ rfl rfl (fun w hw => faE3 w _ _)
  | 5, _, ho => cases ho; exact stepG_store rfl rfl rfl _ _ _ (fun g => .pointer (some ⟨w.heap.size + 1, 3, none⟩)) (fun g => .int .i64 ro) rfl (fun g => by kernel_rfl) (fun g => by kernel_rfl) (fun g d V hJ hun hdep => by obtain ⟨e2, he2, hJ'⟩ := hJ; refine ⟨_, st_in (z := e2.ro) ((zca hJ'.tg 3).trans rfl) (zta hJ'.tg 3), { e2 with ro := ro }, ?_, hJ'.put 3 _ _ rfl⟩; rw [he2]; simp)
  | 6, _, ho => cases ho; exact zgo fun g d hdep => zfa rfl trivial _ _ _ _ rfl rfl (fun w hw => faE4 w _ _)
  | 7, _, ho => cases ho; exact stepG_store rfl rfl rfl _ _ _ (fun g => .pointer (some ⟨w.heap.size + 1, 4, none⟩)) (fun g => .int .i64 ta) rfl (fun g => by kernel_rfl) (fun g => by kernel_rfl) (fun g d V hJ hun hdep => by obtain ⟨e2, he2, hJ'⟩ := hJ; refine ⟨_, st_in (z := e2.ta) ((zca hJ'.tg 4).trans rfl) (zta hJ'.tg 4), { e2 with ta := ta }, ?_, hJ'.put 4 _ _ rfl⟩; rw [he2]; simp)
 intro g d W hall hW
 first | refine hK _ _ ?_ | refine (‹∀ (a : Act) (w : World), Code.wp Try.prog _ _ a w → _›) _ _ ?_ | skip
 simp only [finL, List.getD_cons_zero, List.getD_cons_succ, Nat.zero_add, Nat.reduceAdd, List.setIfInBounds_toArray, List.set_cons_zero, List.set_cons_succ]
 rw [hall 5 (by decide), hall 7 (by decide)] at hW
 obtain ⟨e2, he2, hJ2⟩ := hW
 simp only [if_true] at he2
 have HE : Hid (e2 = _) := he2
 clear hall hJ0 he2
 have hJ3 := hJ2
 rw [HE.out] at hJ3
 clear hJ2
 go_upto_region 13 with fail
 cases c0 : (0 == of) with
 | false =>
  refine wp_region ?_
  refine wpOps_pure0 (fun i__ => ([(.pointer (some ⟨w.heap.size + 1, 3, none⟩)), (.int .i64 ro), (.pointer (some ⟨w.heap.size, 3, none⟩)), (.int .i64 ro), (.bool true), (.bool true), (.pointer (some ⟨w.heap.size + 1, 4, none⟩)), (.int .i64 ta), (.pointer (some ⟨w.heap.size, 4, none⟩)), (.int .i64 ta), (.bool true), (.bool true), (.bool true), (.pointer (some ⟨w.heap.size + 1, 5, none⟩)), (.int .i64 0), (.pointer (some ⟨w.heap.size, 5, none⟩)), (.int .i64 of), (.bool false), (.bool false), (.bool false), undef, undef, undef, undef, undef, (.bool false), (.bool false), undef, undef, undef, undef, undef, (.bool false), (.bool false), undef, undef, undef, undef, undef, (.bool false), (.bool false)] : List Value).getD i__ undef) (fun V => JX w (w.heap.size) (w.heap.size + 1) (w.heap.size) ⟨1, nd, li, ro, ta, of, du, he, un⟩ ⟨1, nd, li, ro, ta, 0, 0, 0, 0⟩ V) (by kernel_rfl) hJ3 ?_ ?_
  · refine (sqc ?_ (sqc ?_ (sqc ?_ (sqc ?_ (sqc ?_ (sqc ?_ (sqc ?_ (sqc ?_ (sqc ?_ (sqc ?_ (sqc ?_ (sqc ?_ (sqc ?_ (sqc ?_ (sqc ?_ (sqc ?_ (sqc ?_ (sqc ?_ (sqc ?_ (sqc ?_ (sqc ?_ (sqc ?_ (sqc ?_ (sqc ?_ (sqc ?_ (sqc ?_ (sqc ?_ (sqc ?_ (sqc ?_ (sqc ?_ (sqc ?_ (sqc ?_ (sqc ?_ (sqc ?_ (sqc ?_ (sqc ?_ (sqc ?_ (sqc ?_ (sqc ?_ (sqc ?_ (sqc ?_ trivial)))))))))))))))))))))))))))))))))))))))))
    · exact zfa rfl trivial _ _ _ _ rfl rfl (fun w hw => faE3 w _ _)
    · exact zld rfl trivial _ _ _ rfl rfl (fun w hw => load_in ((zca hw.tg 3).trans rfl))
    · exact zfa rfl trivial _ _ _ _ rfl rfl (fun w hw => faE3 w _ _)
    · exact zld rfl trivial _ _ _ rfl rfl (fun w hw => load_in ((zca hw.bx 3).trans rfl))
    · exact zbo rfl trivial _ _ _ _ _ _ _ rfl rfl rfl (fun w hw => (bin_eql .i64 ro ro).trans (congrArg (fun z => Result.ok (Value.bool z) w) (by simp)))
    · exact zmv rfl trivial _ rfl (by kernel_rfl)
    · exact zfa rfl ⟨_, rfl, by kernel_rfl⟩ _ _ _ _ rfl rfl (fun w hw => faE4 w _ _)
    · exact zld rfl ⟨_, rfl, by kernel_rfl⟩ _ _ _ rfl rfl (fun w hw => load_in ((zca hw.tg 4).trans rfl))
    · exact zfa rfl ⟨_, rfl, by kernel_rfl⟩ _ _ _ _ rfl rfl (fun w hw => faE4 w _ _)
    · exact zld rfl ⟨_, rfl, by kernel_rfl⟩ _ _ _ rfl rfl (fun w hw => load_in ((zca hw.bx 4).trans rfl))
    · exact zbo rfl ⟨_, rfl, by kernel_rfl⟩ _ _ _ _ _ _ _ rfl rfl rfl (fun w hw => (bin_eql .i64 ta ta).trans (congrArg (fun z => Result.ok (Value.bool z) w) (by simp)))
    · exact step_pick rfl trivial _ _ _ true rfl (by kernel_rfl) (by kernel_rfl)
    · exact zmv rfl trivial _ rfl (by kernel_rfl)
    · exact zfa rfl ⟨_, rfl, by kernel_rfl⟩ _ _ _ _ rfl rfl (fun w hw => faE5 w _ _)
    · exact zld rfl ⟨_, rfl, by kernel_rfl⟩ _ _ _ rfl rfl (fun w hw => load_in ((zca hw.tg 5).trans rfl))
    · exact zfa rfl ⟨_, rfl, by kernel_rfl⟩ _ _ _ _ rfl rfl (fun w hw => faE5 w _ _)
    · exact zld rfl ⟨_, rfl, by kernel_rfl⟩ _ _ _ rfl rfl (fun w hw => load_in ((zca hw.bx 5).trans rfl))
    · exact zbo rfl ⟨_, rfl, by kernel_rfl⟩ _ _ _ _ _ _ _ rfl rfl rfl (fun w hw => by rw [← c0]; exact bin_eql _ _ _)
    · exact step_pick rfl trivial _ _ _ true rfl (by kernel_rfl) (by kernel_rfl)
    · exact zmv rfl trivial _ rfl (by kernel_rfl)
    · exact zsk rfl 19 true 75 (.bool false) rfl rfl (by kernel_rfl) (by intro h; cases h) rfl
    · exact zsk rfl 19 true 75 (.bool false) rfl rfl (by kernel_rfl) (by intro h; cases h) rfl
    · exact zsk rfl 19 true 75 (.bool false) rfl rfl (by kernel_rfl) (by intro h; cases h) rfl
    · exact zsk rfl 19 true 75 (.bool false) rfl rfl (by kernel_rfl) (by intro h; cases h) rfl
    · exact zsk rfl 19 true 75 (.bool false) rfl rfl (by kernel_rfl) (by intro h; cases h) rfl
    · exact step_pick rfl trivial _ _ _ false rfl (by kernel_rfl) (by kernel_rfl)
    · exact zmv rfl trivial _ rfl (by kernel_rfl)
    · exact zsk rfl 26 true 82 (.bool false) rfl rfl (by kernel_rfl) (by intro h; cases h) rfl
    · exact zsk rfl 26 true 82 (.bool false) rfl rfl (by kernel_rfl) (by intro h; cases h) rfl
    · exact zsk rfl 26 true 82 (.bool false) rfl rfl (by kernel_rfl) (by intro h; cases h) rfl
    · exact zsk rfl 26 true 82 (.bool false) rfl rfl (by kernel_rfl) (by intro h; cases h) rfl
    · exact zsk rfl 26 true 82 (.bool false) rfl rfl (by kernel_rfl) (by intro h; cases h) rfl
    · exact step_pick rfl trivial _ _ _ false rfl (by kernel_rfl) (by kernel_rfl)
    · exact zmv rfl trivial _ rfl (by kernel_rfl)
    · exact zsk rfl 33 true 89 (.bool false) rfl rfl (by kernel_rfl) (by intro h; cases h) rfl
    · exact zsk rfl 33 true 89 (.bool false) rfl rfl (by kernel_rfl) (by intro h; cases h) rfl
    · exact zsk rfl 33 true 89 (.bool false) rfl rfl (by kernel_rfl) (by intro h; cases h) rfl
    · exact zsk rfl 33 true 89 (.bool false) rfl rfl (by kernel_rfl) (by intro h; cases h) rfl
    · exact zsk rfl 33 true 89 (.bool false) rfl rfl (by kernel_rfl) (by intro h; cases h) rfl
    · exact step_pick rfl trivial _ _ _ false rfl (by kernel_rfl) (by kernel_rfl)
    · exact zas rfl trivial _ rfl (by kernel_rfl) (fun _ h => h)
  intro W hW
  simp only [Exit.then, finL, List.getD_cons_zero, List.getD_cons_succ, Nat.zero_add, Nat.reduceAdd, List.setIfInBounds_toArray, List.set_cons_zero, List.set_cons_succ]
  go_wp2
  go_ret
  exact ⟨by rw [hy]; exact congrArg (fun z => Ending.returned (Value.bool z)) (Eq.symm (Bool.eq_false_iff.2 (fun hE => by have hE2 := (eqEv_iff _ _).1 hE; simp [bareE] at hE2; simp at c0; omega))), hW.bl⟩
 | true =>
  cases c1 : (0 == du) with
  | false =>
    refine wp_region ?_
    refine wpOps_pure0 (fun i__ => ([(.pointer (some ⟨w.heap.size + 1, 3, none⟩)), (.int .i64 ro), (.pointer (some ⟨w.heap.size, 3, none⟩)), (.int .i64 ro), (.bool true), (.bool true), (.pointer (some ⟨w.heap.size + 1, 4, none⟩)), (.int .i64 ta), (.pointer (some ⟨w.heap.size, 4, none⟩)), (.int .i64 ta), (.bool true), (.bool true), (.bool true), (.pointer (some ⟨w.heap.size + 1, 5, none⟩)), (.int .i64 0), (.pointer (some ⟨w.heap.size, 5, none⟩)), (.int .i64 of), (.bool true), (.bool true), (.bool true), (.pointer (some ⟨w.heap.size + 1, 6, none⟩)), (.int .i64 0), (.pointer (some ⟨w.heap.size, 6, none⟩)), (.int .i64 du), (.bool false), (.bool false), (.bool false), undef, undef, undef, undef, undef, (.bool false), (.bool false), undef, undef, undef, undef, undef, (.bool false), (.bool false)] : List Value).getD i__ undef) (fun V => JX w (w.heap.size) (w.heap.size + 1) (w.heap.size) ⟨1, nd, li, ro, ta, of, du, he, un⟩ ⟨1, nd, li, ro, ta, 0, 0, 0, 0⟩ V) (by kernel_rfl) hJ3 ?_ ?_
    · refine (sqc ?_ (sqc ?_ (sqc ?_ (sqc ?_ (sqc ?_ (sqc ?_ (sqc ?_ (sqc ?_ (sqc ?_ (sqc ?_ (sqc ?_ (sqc ?_ (sqc ?_ (sqc ?_ (sqc ?_ (sqc ?_ (sqc ?_ (sqc ?_ (sqc ?_ (sqc ?_ (sqc ?_ (sqc ?_ (sqc ?_ (sqc ?_ (sqc ?_ (sqc ?_ (sqc ?_ (sqc ?_ (sqc ?_ (sqc ?_ (sqc ?_ (sqc ?_ (sqc ?_ (sqc ?_ (sqc ?_ (sqc ?_ (sqc ?_ (sqc ?_ (sqc ?_ (sqc ?_ (sqc ?_ trivial)))))))))))))))))))))))))))))))))))))))))
      · exact zfa rfl trivial _ _ _ _ rfl rfl (fun w hw => faE3 w _ _)
      · exact zld rfl trivial _ _ _ rfl rfl (fun w hw => load_in ((zca hw.tg 3).trans rfl))
      · exact zfa rfl trivial _ _ _ _ rfl rfl (fun w hw => faE3 w _ _)
      · exact zld rfl trivial _ _ _ rfl rfl (fun w hw => load_in ((zca hw.bx 3).trans rfl))
      · exact zbo rfl trivial _ _ _ _ _ _ _ rfl rfl rfl (fun w hw => (bin_eql .i64 ro ro).trans (congrArg (fun z => Result.ok (Value.bool z) w) (by simp)))
      · exact zmv rfl trivial _ rfl (by kernel_rfl)
      · exact zfa rfl ⟨_, rfl, by kernel_rfl⟩ _ _ _ _ rfl rfl (fun w hw => faE4 w _ _)
      · exact zld rfl ⟨_, rfl, by kernel_rfl⟩ _ _ _ rfl rfl (fun w hw => load_in ((zca hw.tg 4).trans rfl))
      · exact zfa rfl ⟨_, rfl, by kernel_rfl⟩ _ _ _ _ rfl rfl (fun w hw => faE4 w _ _)
      · exact zld rfl ⟨_, rfl, by kernel_rfl⟩ _ _ _ rfl rfl (fun w hw => load_in ((zca hw.bx 4).trans rfl))
      · exact zbo rfl ⟨_, rfl, by kernel_rfl⟩ _ _ _ _ _ _ _ rfl rfl rfl (fun w hw => (bin_eql .i64 ta ta).trans (congrArg (fun z => Result.ok (Value.bool z) w) (by simp)))
      · exact step_pick rfl trivial _ _ _ true rfl (by kernel_rfl) (by kernel_rfl)
      · exact zmv rfl trivial _ rfl (by kernel_rfl)
      · exact zfa rfl ⟨_, rfl, by kernel_rfl⟩ _ _ _ _ rfl rfl (fun w hw => faE5 w _ _)
      · exact zld rfl ⟨_, rfl, by kernel_rfl⟩ _ _ _ rfl rfl (fun w hw => load_in ((zca hw.tg 5).trans rfl))
      · exact zfa rfl ⟨_, rfl, by kernel_rfl⟩ _ _ _ _ rfl rfl (fun w hw => faE5 w _ _)
      · exact zld rfl ⟨_, rfl, by kernel_rfl⟩ _ _ _ rfl rfl (fun w hw => load_in ((zca hw.bx 5).trans rfl))
      · exact zbo rfl ⟨_, rfl, by kernel_rfl⟩ _ _ _ _ _ _ _ rfl rfl rfl (fun w hw => by rw [← c0]; exact bin_eql _ _ _)
      · exact step_pick rfl trivial _ _ _ true rfl (by kernel_rfl) (by kernel_rfl)
      · exact zmv rfl trivial _ rfl (by kernel_rfl)
      · exact zfa rfl ⟨_, rfl, by kernel_rfl⟩ _ _ _ _ rfl rfl (fun w hw => faE6 w _ _)
      · exact zld rfl ⟨_, rfl, by kernel_rfl⟩ _ _ _ rfl rfl (fun w hw => load_in ((zca hw.tg 6).trans rfl))
      · exact zfa rfl ⟨_, rfl, by kernel_rfl⟩ _ _ _ _ rfl rfl (fun w hw => faE6 w _ _)
      · exact zld rfl ⟨_, rfl, by kernel_rfl⟩ _ _ _ rfl rfl (fun w hw => load_in ((zca hw.bx 6).trans rfl))
      · exact zbo rfl ⟨_, rfl, by kernel_rfl⟩ _ _ _ _ _ _ _ rfl rfl rfl (fun w hw => by rw [← c1]; exact bin_eql _ _ _)
      · exact step_pick rfl trivial _ _ _ true rfl (by kernel_rfl) (by kernel_rfl)
      · exact zmv rfl trivial _ rfl (by kernel_rfl)
      · exact zsk rfl 26 true 82 (.bool false) rfl rfl (by kernel_rfl) (by intro h; cases h) rfl
      · exact zsk rfl 26 true 82 (.bool false) rfl rfl (by kernel_rfl) (by intro h; cases h) rfl
      · exact zsk rfl 26 true 82 (.bool false) rfl rfl (by kernel_rfl) (by intro h; cases h) rfl
      · exact zsk rfl 26 true 82 (.bool false) rfl rfl (by kernel_rfl) (by intro h; cases h) rfl
      · exact zsk rfl 26 true 82 (.bool false) rfl rfl (by kernel_rfl) (by intro h; cases h) rfl
      · exact step_pick rfl trivial _ _ _ false rfl (by kernel_rfl) (by kernel_rfl)
      · exact zmv rfl trivial _ rfl (by kernel_rfl)
      · exact zsk rfl 33 true 89 (.bool false) rfl rfl (by kernel_rfl) (by intro h; cases h) rfl
      · exact zsk rfl 33 true 89 (.bool false) rfl rfl (by kernel_rfl) (by intro h; cases h) rfl
      · exact zsk rfl 33 true 89 (.bool false) rfl rfl (by kernel_rfl) (by intro h; cases h) rfl
      · exact zsk rfl 33 true 89 (.bool false) rfl rfl (by kernel_rfl) (by intro h; cases h) rfl
      · exact zsk rfl 33 true 89 (.bool false) rfl rfl (by kernel_rfl) (by intro h; cases h) rfl
      · exact step_pick rfl trivial _ _ _ false rfl (by kernel_rfl) (by kernel_rfl)
      · exact zas rfl trivial _ rfl (by kernel_rfl) (fun _ h => h)
    intro W hW
    simp only [Exit.then, finL, List.getD_cons_zero, List.getD_cons_succ, Nat.zero_add, Nat.reduceAdd, List.setIfInBounds_toArray, List.set_cons_zero, List.set_cons_succ]
    go_wp2
    go_ret
    exact ⟨by rw [hy]; exact congrArg (fun z => Ending.returned (Value.bool z)) (Eq.symm (Bool.eq_false_iff.2 (fun hE => by have hE2 := (eqEv_iff _ _).1 hE; simp [bareE] at hE2; simp at c1; omega))), hW.bl⟩
  | true =>
    cases c2 : decide (0 = he) with
    | false =>
      refine wp_region ?_
      refine wpOps_pure0 (fun i__ => ([(.pointer (some ⟨w.heap.size + 1, 3, none⟩)), (.int .i64 ro), (.pointer (some ⟨w.heap.size, 3, none⟩)), (.int .i64 ro), (.bool true), (.bool true), (.pointer (some ⟨w.heap.size + 1, 4, none⟩)), (.int .i64 ta), (.pointer (some ⟨w.heap.size, 4, none⟩)), (.int .i64 ta), (.bool true), (.bool true), (.bool true), (.pointer (some ⟨w.heap.size + 1, 5, none⟩)), (.int .i64 0), (.pointer (some ⟨w.heap.size, 5, none⟩)), (.int .i64 of), (.bool true), (.bool true), (.bool true), (.pointer (some ⟨w.heap.size + 1, 6, none⟩)), (.int .i64 0), (.pointer (some ⟨w.heap.size, 6, none⟩)), (.int .i64 du), (.bool true), (.bool true), (.bool true), (.pointer (some ⟨w.heap.size + 1, 7, none⟩)), (sv 0), (.pointer (some ⟨w.heap.size, 7, none⟩)), (sv he), (.bool false), (.bool false), (.bool false), undef, undef, undef, undef, undef, (.bool false), (.bool false)] : List Value).getD i__ undef) (fun V => JX w (w.heap.size) (w.heap.size + 1) (w.heap.size) ⟨1, nd, li, ro, ta, of, du, he, un⟩ ⟨1, nd, li, ro, ta, 0, 0, 0, 0⟩ V) (by kernel_rfl) hJ3 ?_ ?_
      · refine (sqc ?_ (sqc ?_ (sqc ?_ (sqc ?_ (sqc ?_ (sqc ?_ (sqc ?_ (sqc ?_ (sqc ?_ (sqc ?_ (sqc ?_ (sqc ?_ (sqc ?_ (sqc ?_ (sqc ?_ (sqc ?_ (sqc ?_ (sqc ?_ (sqc ?_ (sqc ?_ (sqc ?_ (sqc ?_ (sqc ?_ (sqc ?_ (sqc ?_ (sqc ?_ (sqc ?_ (sqc ?_ (sqc ?_ (sqc ?_ (sqc ?_ (sqc ?_ (sqc ?_ (sqc ?_ (sqc ?_ (sqc ?_ (sqc ?_ (sqc ?_ (sqc ?_ (sqc ?_ (sqc ?_ trivial)))))))))))))))))))))))))))))))))))))))))
        · exact zfa rfl trivial _ _ _ _ rfl rfl (fun w hw => faE3 w _ _)
        · exact zld rfl trivial _ _ _ rfl rfl (fun w hw => load_in ((zca hw.tg 3).trans rfl))
        · exact zfa rfl trivial _ _ _ _ rfl rfl (fun w hw => faE3 w _ _)
        · exact zld rfl trivial _ _ _ rfl rfl (fun w hw => load_in ((zca hw.bx 3).trans rfl))
        · exact zbo rfl trivial _ _ _ _ _ _ _ rfl rfl rfl (fun w hw => (bin_eql .i64 ro ro).trans (congrArg (fun z => Result.ok (Value.bool z) w) (by simp)))
        · exact zmv rfl trivial _ rfl (by kernel_rfl)
        · exact zfa rfl ⟨_, rfl, by kernel_rfl⟩ _ _ _ _ rfl rfl (fun w hw => faE4 w _ _)
        · exact zld rfl ⟨_, rfl, by kernel_rfl⟩ _ _ _ rfl rfl (fun w hw => load_in ((zca hw.tg 4).trans rfl))
        · exact zfa rfl ⟨_, rfl, by kernel_rfl⟩ _ _ _ _ rfl rfl (fun w hw => faE4 w _ _)
        · exact zld rfl ⟨_, rfl, by kernel_rfl⟩ _ _ _ rfl rfl (fun w hw => load_in ((zca hw.bx 4).trans rfl))
        · exact zbo rfl ⟨_, rfl, by kernel_rfl⟩ _ _ _ _ _ _ _ rfl rfl rfl (fun w hw => (bin_eql .i64 ta ta).trans (congrArg (fun z => Result.ok (Value.bool z) w) (by simp)))
        · exact step_pick rfl trivial _ _ _ true rfl (by kernel_rfl) (by kernel_rfl)
        · exact zmv rfl trivial _ rfl (by kernel_rfl)
        · exact zfa rfl ⟨_, rfl, by kernel_rfl⟩ _ _ _ _ rfl rfl (fun w hw => faE5 w _ _)
        · exact zld rfl ⟨_, rfl, by kernel_rfl⟩ _ _ _ rfl rfl (fun w hw => load_in ((zca hw.tg 5).trans rfl))
        · exact zfa rfl ⟨_, rfl, by kernel_rfl⟩ _ _ _ _ rfl rfl (fun w hw => faE5 w _ _)
        · exact zld rfl ⟨_, rfl, by kernel_rfl⟩ _ _ _ rfl rfl (fun w hw => load_in ((zca hw.bx 5).trans rfl))
        · exact zbo rfl ⟨_, rfl, by kernel_rfl⟩ _ _ _ _ _ _ _ rfl rfl rfl (fun w hw => by rw [← c0]; exact bin_eql _ _ _)
        · exact step_pick rfl trivial _ _ _ true rfl (by kernel_rfl) (by kernel_rfl)
        · exact zmv rfl trivial _ rfl (by kernel_rfl)
        · exact zfa rfl ⟨_, rfl, by kernel_rfl⟩ _ _ _ _ rfl rfl (fun w hw => faE6 w _ _)
        · exact zld rfl ⟨_, rfl, by kernel_rfl⟩ _ _ _ rfl rfl (fun w hw => load_in ((zca hw.tg 6).trans rfl))
        · exact zfa rfl ⟨_, rfl, by kernel_rfl⟩ _ _ _ _ rfl rfl (fun w hw => faE6 w _ _)
        · exact zld rfl ⟨_, rfl, by kernel_rfl⟩ _ _ _ rfl rfl (fun w hw => load_in ((zca hw.bx 6).trans rfl))
        · exact zbo rfl ⟨_, rfl, by kernel_rfl⟩ _ _ _ _ _ _ _ rfl rfl rfl (fun w hw => by rw [← c1]; exact bin_eql _ _ _)
        · exact step_pick rfl trivial _ _ _ true rfl (by kernel_rfl) (by kernel_rfl)
        · exact zmv rfl trivial _ rfl (by kernel_rfl)
        · exact zfa rfl ⟨_, rfl, by kernel_rfl⟩ _ _ _ _ rfl rfl (fun w hw => faE7 w _ _)
        · exact zld rfl ⟨_, rfl, by kernel_rfl⟩ _ _ _ rfl rfl (fun w hw => load_se (N := 0) ((zca hw.tg 7).trans rfl) ((zca hw.tg 8).trans rfl) ((zca hw.tg 9).trans rfl) ((zca hw.tg 10).trans rfl))
        · exact zfa rfl ⟨_, rfl, by kernel_rfl⟩ _ _ _ _ rfl rfl (fun w hw => faE7 w _ _)
        · exact zld rfl ⟨_, rfl, by kernel_rfl⟩ _ _ _ rfl rfl (fun w hw => load_se (N := he) ((zca hw.bx 7).trans rfl) ((zca hw.bx 8).trans rfl) ((zca hw.bx 9).trans rfl) ((zca hw.bx 10).trans rfl))
        · exact zbo rfl ⟨_, rfl, by kernel_rfl⟩ _ _ _ _ _ _ _ rfl rfl rfl (fun w hw => by rw [← c2]; exact eql4 _ _ 0 he s0lt hhe w)
        · exact step_pick rfl trivial _ _ _ true rfl (by kernel_rfl) (by kernel_rfl)
        · exact zmv rfl trivial _ rfl (by kernel_rfl)
        · exact zsk rfl 33 true 89 (.bool false) rfl rfl (by kernel_rfl) (by intro h; cases h) rfl
        · exact zsk rfl 33 true 89 (.bool false) rfl rfl (by kernel_rfl) (by intro h; cases h) rfl
        · exact zsk rfl 33 true 89 (.bool false) rfl rfl (by kernel_rfl) (by intro h; cases h) rfl
        · exact zsk rfl 33 true 89 (.bool false) rfl rfl (by kernel_rfl) (by intro h; cases h) rfl
        · exact zsk rfl 33 true 89 (.bool false) rfl rfl (by kernel_rfl) (by intro h; cases h) rfl
        · exact step_pick rfl trivial _ _ _ false rfl (by kernel_rfl) (by kernel_rfl)
        · exact zas rfl trivial _ rfl (by kernel_rfl) (fun _ h => h)
      intro W hW
      simp only [Exit.then, finL, List.getD_cons_zero, List.getD_cons_succ, Nat.zero_add, Nat.reduceAdd, List.setIfInBounds_toArray, List.set_cons_zero, List.set_cons_succ]
      go_wp2
      go_ret
      exact ⟨by rw [hy]; exact congrArg (fun z => Ending.returned (Value.bool z)) (Eq.symm (Bool.eq_false_iff.2 (fun hE => by have hE2 := (eqEv_iff _ _).1 hE; simp [bareE] at hE2; simp at c2; omega))), hW.bl⟩
    | true =>
      cases c3 : decide (0 = un) with
      | false =>
        refine wp_region ?_
        refine wpOps_pure0 (fun i__ => ([(.pointer (some ⟨w.heap.size + 1, 3, none⟩)), (.int .i64 ro), (.pointer (some ⟨w.heap.size, 3, none⟩)), (.int .i64 ro), (.bool true), (.bool true), (.pointer (some ⟨w.heap.size + 1, 4, none⟩)), (.int .i64 ta), (.pointer (some ⟨w.heap.size, 4, none⟩)), (.int .i64 ta), (.bool true), (.bool true), (.bool true), (.pointer (some ⟨w.heap.size + 1, 5, none⟩)), (.int .i64 0), (.pointer (some ⟨w.heap.size, 5, none⟩)), (.int .i64 of), (.bool true), (.bool true), (.bool true), (.pointer (some ⟨w.heap.size + 1, 6, none⟩)), (.int .i64 0), (.pointer (some ⟨w.heap.size, 6, none⟩)), (.int .i64 du), (.bool true), (.bool true), (.bool true), (.pointer (some ⟨w.heap.size + 1, 7, none⟩)), (sv 0), (.pointer (some ⟨w.heap.size, 7, none⟩)), (sv he), (.bool true), (.bool true), (.bool true), (.pointer (some ⟨w.heap.size + 1, 11, none⟩)), (sv 0), (.pointer (some ⟨w.heap.size, 11, none⟩)), (sv un), (.bool false), (.bool false), (.bool false)] : List Value).getD i__ undef) (fun V => JX w (w.heap.size) (w.heap.size + 1) (w.heap.size) ⟨1, nd, li, ro, ta, of, du, he, un⟩ ⟨1, nd, li, ro, ta, 0, 0, 0, 0⟩ V) (by kernel_rfl) hJ3 ?_ ?_
        · refine (sqc ?_ (sqc ?_ (sqc ?_ (sqc ?_ (sqc ?_ (sqc ?_ (sqc ?_ (sqc ?_ (sqc ?_ (sqc ?_ (sqc ?_ (sqc ?_ (sqc ?_ (sqc ?_ (sqc ?_ (sqc ?_ (sqc ?_ (sqc ?_ (sqc ?_ (sqc ?_ (sqc ?_ (sqc ?_ (sqc ?_ (sqc ?_ (sqc ?_ (sqc ?_ (sqc ?_ (sqc ?_ (sqc ?_ (sqc ?_ (sqc ?_ (sqc ?_ (sqc ?_ (sqc ?_ (sqc ?_ (sqc ?_ (sqc ?_ (sqc ?_ (sqc ?_ (sqc ?_ (sqc ?_ trivial)))))))))))))))))))))))))))))))))))))))))
          · exact zfa rfl trivial _ _ _ _ rfl rfl (fun w hw => faE3 w _ _)
          · exact zld rfl trivial _ _ _ rfl rfl (fun w hw => load_in ((zca hw.tg 3).trans rfl))
          · exact zfa rfl trivial _ _ _ _ rfl rfl (fun w hw => faE3 w _ _)
          · exact zld rfl trivial _ _ _ rfl rfl (fun w hw => load_in ((zca hw.bx 3).trans rfl))
          · exact zbo rfl trivial _ _ _ _ _ _ _ rfl rfl rfl (fun w hw => (bin_eql .i64 ro ro).trans (congrArg (fun z => Result.ok (Value.bool z) w) (by simp)))
          · exact zmv rfl trivial _ rfl (by kernel_rfl)
          · exact zfa rfl ⟨_, rfl, by kernel_rfl⟩ _ _ _ _ rfl rfl (fun w hw => faE4 w _ _)
          · exact zld rfl ⟨_, rfl, by kernel_rfl⟩ _ _ _ rfl rfl (fun w hw => load_in ((zca hw.tg 4).trans rfl))
          · exact zfa rfl ⟨_, rfl, by kernel_rfl⟩ _ _ _ _ rfl rfl (fun w hw => faE4 w _ _)
          · exact zld rfl ⟨_, rfl, by kernel_rfl⟩ _ _ _ rfl rfl (fun w hw => load_in ((zca hw.bx 4).trans rfl))
          · exact zbo rfl ⟨_, rfl, by kernel_rfl⟩ _ _ _ _ _ _ _ rfl rfl rfl (fun w hw => (bin_eql .i64 ta ta).trans (congrArg (fun z => Result.ok (Value.bool z) w) (by simp)))
          · exact step_pick rfl trivial _ _ _ true rfl (by kernel_rfl) (by kernel_rfl)
          · exact zmv rfl trivial _ rfl (by kernel_rfl)
          · exact zfa rfl ⟨_, rfl, by kernel_rfl⟩ _ _ _ _ rfl rfl (fun w hw => faE5 w _ _)
          · exact zld rfl ⟨_, rfl, by kernel_rfl⟩ _ _ _ rfl rfl (fun w hw => load_in ((zca hw.tg 5).trans rfl))
          · exact zfa rfl ⟨_, rfl, by kernel_rfl⟩ _ _ _ _ rfl rfl (fun w hw => faE5 w _ _)
          · exact zld rfl ⟨_, rfl, by kernel_rfl⟩ _ _ _ rfl rfl (fun w hw => load_in ((zca hw.bx 5).trans rfl))
          · exact zbo rfl ⟨_, rfl, by kernel_rfl⟩ _ _ _ _ _ _ _ rfl rfl rfl (fun w hw => by rw [← c0]; exact bin_eql _ _ _)
          · exact step_pick rfl trivial _ _ _ true rfl (by kernel_rfl) (by kernel_rfl)
          · exact zmv rfl trivial _ rfl (by kernel_rfl)
          · exact zfa rfl ⟨_, rfl, by kernel_rfl⟩ _ _ _ _ rfl rfl (fun w hw => faE6 w _ _)
          · exact zld rfl ⟨_, rfl, by kernel_rfl⟩ _ _ _ rfl rfl (fun w hw => load_in ((zca hw.tg 6).trans rfl))
          · exact zfa rfl ⟨_, rfl, by kernel_rfl⟩ _ _ _ _ rfl rfl (fun w hw => faE6 w _ _)
          · exact zld rfl ⟨_, rfl, by kernel_rfl⟩ _ _ _ rfl rfl (fun w hw => load_in ((zca hw.bx 6).trans rfl))
          · exact zbo rfl ⟨_, rfl, by kernel_rfl⟩ _ _ _ _ _ _ _ rfl rfl rfl (fun w hw => by rw [← c1]; exact bin_eql _ _ _)
          · exact step_pick rfl trivial _ _ _ true rfl (by kernel_rfl) (by kernel_rfl)
          · exact zmv rfl trivial _ rfl (by kernel_rfl)
          · exact zfa rfl ⟨_, rfl, by kernel_rfl⟩ _ _ _ _ rfl rfl (fun w hw => faE7 w _ _)
          · exact zld rfl ⟨_, rfl, by kernel_rfl⟩ _ _ _ rfl rfl (fun w hw => load_se (N := 0) ((zca hw.tg 7).trans rfl) ((zca hw.tg 8).trans rfl) ((zca hw.tg 9).trans rfl) ((zca hw.tg 10).trans rfl))
          · exact zfa rfl ⟨_, rfl, by kernel_rfl⟩ _ _ _ _ rfl rfl (fun w hw => faE7 w _ _)
          · exact zld rfl ⟨_, rfl, by kernel_rfl⟩ _ _ _ rfl rfl (fun w hw => load_se (N := he) ((zca hw.bx 7).trans rfl) ((zca hw.bx 8).trans rfl) ((zca hw.bx 9).trans rfl) ((zca hw.bx 10).trans rfl))
          · exact zbo rfl ⟨_, rfl, by kernel_rfl⟩ _ _ _ _ _ _ _ rfl rfl rfl (fun w hw => by rw [← c2]; exact eql4 _ _ 0 he s0lt hhe w)
          · exact step_pick rfl trivial _ _ _ true rfl (by kernel_rfl) (by kernel_rfl)
          · exact zmv rfl trivial _ rfl (by kernel_rfl)
          · exact zfa rfl ⟨_, rfl, by kernel_rfl⟩ _ _ _ _ rfl rfl (fun w hw => faE8 w _ _)
          · exact zld rfl ⟨_, rfl, by kernel_rfl⟩ _ _ _ rfl rfl (fun w hw => load_se (N := 0) ((zca hw.tg 11).trans rfl) ((zca hw.tg 12).trans rfl) ((zca hw.tg 13).trans rfl) ((zca hw.tg 14).trans rfl))
          · exact zfa rfl ⟨_, rfl, by kernel_rfl⟩ _ _ _ _ rfl rfl (fun w hw => faE8 w _ _)
          · exact zld rfl ⟨_, rfl, by kernel_rfl⟩ _ _ _ rfl rfl (fun w hw => load_se (N := un) ((zca hw.bx 11).trans rfl) ((zca hw.bx 12).trans rfl) ((zca hw.bx 13).trans rfl) ((zca hw.bx 14).trans rfl))
          · exact zbo rfl ⟨_, rfl, by kernel_rfl⟩ _ _ _ _ _ _ _ rfl rfl rfl (fun w hw => by rw [← c3]; exact eql4 _ _ 0 un s0lt hun w)
          · exact step_pick rfl trivial _ _ _ true rfl (by kernel_rfl) (by kernel_rfl)
          · exact zas rfl trivial _ rfl (by kernel_rfl) (fun _ h => h)
        intro W hW
        simp only [Exit.then, finL, List.getD_cons_zero, List.getD_cons_succ, Nat.zero_add, Nat.reduceAdd, List.setIfInBounds_toArray, List.set_cons_zero, List.set_cons_succ]
        go_wp2
        go_ret
        exact ⟨by rw [hy]; exact congrArg (fun z => Ending.returned (Value.bool z)) (Eq.symm (Bool.eq_false_iff.2 (fun hE => by have hE2 := (eqEv_iff _ _).1 hE; simp [bareE] at hE2; simp at c3; omega))), hW.bl⟩
      | true =>
        refine wp_region ?_
        refine wpOps_pure0 (fun i__ => ([(.pointer (some ⟨w.heap.size + 1, 3, none⟩)), (.int .i64 ro), (.pointer (some ⟨w.heap.size, 3, none⟩)), (.int .i64 ro), (.bool true), (.bool true), (.pointer (some ⟨w.heap.size + 1, 4, none⟩)), (.int .i64 ta), (.pointer (some ⟨w.heap.size, 4, none⟩)), (.int .i64 ta), (.bool true), (.bool true), (.bool true), (.pointer (some ⟨w.heap.size + 1, 5, none⟩)), (.int .i64 0), (.pointer (some ⟨w.heap.size, 5, none⟩)), (.int .i64 of), (.bool true), (.bool true), (.bool true), (.pointer (some ⟨w.heap.size + 1, 6, none⟩)), (.int .i64 0), (.pointer (some ⟨w.heap.size, 6, none⟩)), (.int .i64 du), (.bool true), (.bool true), (.bool true), (.pointer (some ⟨w.heap.size + 1, 7, none⟩)), (sv 0), (.pointer (some ⟨w.heap.size, 7, none⟩)), (sv he), (.bool true), (.bool true), (.bool true), (.pointer (some ⟨w.heap.size + 1, 11, none⟩)), (sv 0), (.pointer (some ⟨w.heap.size, 11, none⟩)), (sv un), (.bool true), (.bool true), (.bool true)] : List Value).getD i__ undef) (fun V => JX w (w.heap.size) (w.heap.size + 1) (w.heap.size) ⟨1, nd, li, ro, ta, of, du, he, un⟩ ⟨1, nd, li, ro, ta, 0, 0, 0, 0⟩ V) (by kernel_rfl) hJ3 ?_ ?_
        · refine (sqc ?_ (sqc ?_ (sqc ?_ (sqc ?_ (sqc ?_ (sqc ?_ (sqc ?_ (sqc ?_ (sqc ?_ (sqc ?_ (sqc ?_ (sqc ?_ (sqc ?_ (sqc ?_ (sqc ?_ (sqc ?_ (sqc ?_ (sqc ?_ (sqc ?_ (sqc ?_ (sqc ?_ (sqc ?_ (sqc ?_ (sqc ?_ (sqc ?_ (sqc ?_ (sqc ?_ (sqc ?_ (sqc ?_ (sqc ?_ (sqc ?_ (sqc ?_ (sqc ?_ (sqc ?_ (sqc ?_ (sqc ?_ (sqc ?_ (sqc ?_ (sqc ?_ (sqc ?_ (sqc ?_ trivial)))))))))))))))))))))))))))))))))))))))))
          · exact zfa rfl trivial _ _ _ _ rfl rfl (fun w hw => faE3 w _ _)
          · exact zld rfl trivial _ _ _ rfl rfl (fun w hw => load_in ((zca hw.tg 3).trans rfl))
          · exact zfa rfl trivial _ _ _ _ rfl rfl (fun w hw => faE3 w _ _)
          · exact zld rfl trivial _ _ _ rfl rfl (fun w hw => load_in ((zca hw.bx 3).trans rfl))
          · exact zbo rfl trivial _ _ _ _ _ _ _ rfl rfl rfl (fun w hw => (bin_eql .i64 ro ro).trans (congrArg (fun z => Result.ok (Value.bool z) w) (by simp)))
          · exact zmv rfl trivial _ rfl (by kernel_rfl)
          · exact zfa rfl ⟨_, rfl, by kernel_rfl⟩ _ _ _ _ rfl rfl (fun w hw => faE4 w _ _)
          · exact zld rfl ⟨_, rfl, by kernel_rfl⟩ _ _ _ rfl rfl (fun w hw => load_in ((zca hw.tg 4).trans rfl))
          · exact zfa rfl ⟨_, rfl, by kernel_rfl⟩ _ _ _ _ rfl rfl (fun w hw => faE4 w _ _)
          · exact zld rfl ⟨_, rfl, by kernel_rfl⟩ _ _ _ rfl rfl (fun w hw => load_in ((zca hw.bx 4).trans rfl))
          · exact zbo rfl ⟨_, rfl, by kernel_rfl⟩ _ _ _ _ _ _ _ rfl rfl rfl (fun w hw => (bin_eql .i64 ta ta).trans (congrArg (fun z => Result.ok (Value.bool z) w) (by simp)))
          · exact step_pick rfl trivial _ _ _ true rfl (by kernel_rfl) (by kernel_rfl)
          · exact zmv rfl trivial _ rfl (by kernel_rfl)
          · exact zfa rfl ⟨_, rfl, by kernel_rfl⟩ _ _ _ _ rfl rfl (fun w hw => faE5 w _ _)
          · exact zld rfl ⟨_, rfl, by kernel_rfl⟩ _ _ _ rfl rfl (fun w hw => load_in ((zca hw.tg 5).trans rfl))
          · exact zfa rfl ⟨_, rfl, by kernel_rfl⟩ _ _ _ _ rfl rfl (fun w hw => faE5 w _ _)
          · exact zld rfl ⟨_, rfl, by kernel_rfl⟩ _ _ _ rfl rfl (fun w hw => load_in ((zca hw.bx 5).trans rfl))
          · exact zbo rfl ⟨_, rfl, by kernel_rfl⟩ _ _ _ _ _ _ _ rfl rfl rfl (fun w hw => by rw [← c0]; exact bin_eql _ _ _)
          · exact step_pick rfl trivial _ _ _ true rfl (by kernel_rfl) (by kernel_rfl)
          · exact zmv rfl trivial _ rfl (by kernel_rfl)
          · exact zfa rfl ⟨_, rfl, by kernel_rfl⟩ _ _ _ _ rfl rfl (fun w hw => faE6 w _ _)
          · exact zld rfl ⟨_, rfl, by kernel_rfl⟩ _ _ _ rfl rfl (fun w hw => load_in ((zca hw.tg 6).trans rfl))
          · exact zfa rfl ⟨_, rfl, by kernel_rfl⟩ _ _ _ _ rfl rfl (fun w hw => faE6 w _ _)
          · exact zld rfl ⟨_, rfl, by kernel_rfl⟩ _ _ _ rfl rfl (fun w hw => load_in ((zca hw.bx 6).trans rfl))
          · exact zbo rfl ⟨_, rfl, by kernel_rfl⟩ _ _ _ _ _ _ _ rfl rfl rfl (fun w hw => by rw [← c1]; exact bin_eql _ _ _)
          · exact step_pick rfl trivial _ _ _ true rfl (by kernel_rfl) (by kernel_rfl)
          · exact zmv rfl trivial _ rfl (by kernel_rfl)
          · exact zfa rfl ⟨_, rfl, by kernel_rfl⟩ _ _ _ _ rfl rfl (fun w hw => faE7 w _ _)
          · exact zld rfl ⟨_, rfl, by kernel_rfl⟩ _ _ _ rfl rfl (fun w hw => load_se (N := 0) ((zca hw.tg 7).trans rfl) ((zca hw.tg 8).trans rfl) ((zca hw.tg 9).trans rfl) ((zca hw.tg 10).trans rfl))
          · exact zfa rfl ⟨_, rfl, by kernel_rfl⟩ _ _ _ _ rfl rfl (fun w hw => faE7 w _ _)
          · exact zld rfl ⟨_, rfl, by kernel_rfl⟩ _ _ _ rfl rfl (fun w hw => load_se (N := he) ((zca hw.bx 7).trans rfl) ((zca hw.bx 8).trans rfl) ((zca hw.bx 9).trans rfl) ((zca hw.bx 10).trans rfl))
          · exact zbo rfl ⟨_, rfl, by kernel_rfl⟩ _ _ _ _ _ _ _ rfl rfl rfl (fun w hw => by rw [← c2]; exact eql4 _ _ 0 he s0lt hhe w)
          · exact step_pick rfl trivial _ _ _ true rfl (by kernel_rfl) (by kernel_rfl)
          · exact zmv rfl trivial _ rfl (by kernel_rfl)
          · exact zfa rfl ⟨_, rfl, by kernel_rfl⟩ _ _ _ _ rfl rfl (fun w hw => faE8 w _ _)
          · exact zld rfl ⟨_, rfl, by kernel_rfl⟩ _ _ _ rfl rfl (fun w hw => load_se (N := 0) ((zca hw.tg 11).trans rfl) ((zca hw.tg 12).trans rfl) ((zca hw.tg 13).trans rfl) ((zca hw.tg 14).trans rfl))
          · exact zfa rfl ⟨_, rfl, by kernel_rfl⟩ _ _ _ _ rfl rfl (fun w hw => faE8 w _ _)
          · exact zld rfl ⟨_, rfl, by kernel_rfl⟩ _ _ _ rfl rfl (fun w hw => load_se (N := un) ((zca hw.bx 11).trans rfl) ((zca hw.bx 12).trans rfl) ((zca hw.bx 13).trans rfl) ((zca hw.bx 14).trans rfl))
          · exact zbo rfl ⟨_, rfl, by kernel_rfl⟩ _ _ _ _ _ _ _ rfl rfl rfl (fun w hw => by rw [← c3]; exact eql4 _ _ 0 un s0lt hun w)
          · exact step_pick rfl trivial _ _ _ true rfl (by kernel_rfl) (by kernel_rfl)
          · exact zas rfl trivial _ rfl (by kernel_rfl) (fun _ h => h)
        intro W hW
        simp only [Exit.then, finL, List.getD_cons_zero, List.getD_cons_succ, Nat.zero_add, Nat.reduceAdd, List.setIfInBounds_toArray, List.set_cons_zero, List.set_cons_succ]
        go_wp2
        go_ret
        exact ⟨by rw [hy]; exact congrArg (fun z => Ending.returned (Value.bool z)) (Eq.symm ((eqEv_iff _ _).2 (by simp at c0 c1 c2 c3; simp [bareE]; omega))), hW.bl⟩
theorem rbare_2 (nd li ro ta of du : Int) (he un : Nat) (hhe : he < S128) (hun : un < S128) (w : World) : Calls Try.prog 17 #[evV ⟨2, nd, li, ro, ta, of, du, he, un⟩] w fun e w' => e = .returned (.bool (eqEv ⟨2, nd, li, ro, ta, of, du, he, un⟩ (bareE ⟨2, nd, li, ro, ta, of, du, he, un⟩))) ∧ Below w.heap.size w w' := by
 have hmx : Try.prog.follows .mixedOrders = true := by kernel_rfl
 have hJ0 : JX w (w.heap.size) (w.heap.size + 1) (w.heap.size) ⟨2, nd, li, ro, ta, of, du, he, un⟩ ⟨2, nd, li, 0, 0, 0, 0, 0, 0⟩ ((w.alloc (.cells (ecA ⟨2, nd, li, ro, ta, of, du, he, un⟩) 34)).alloc (.cells (ecA ⟨2, nd, li, 0, 0, 0, 0, 0, 0⟩) 34)) := ⟨zoa (zna rfl), zna (by simp), .inl rfl, ((Below.refl _ w).alloc (Nat.le_refl _) _).alloc (by simp) _, by omega, by omega, by omega⟩
 simp only [ecA, wdz] at hJ0
 obtain ⟨y, hy⟩ : ∃ y, y = Value.bool (eqEv ⟨2, nd, li, ro, ta, of, du, he, un⟩ (bareE ⟨2, nd, li, ro, ta, of, du, he, un⟩)) := ⟨_, rfl⟩
 rw [← hy]
 unfold evV ecA
 go_enter Try.func17, Try.ntmps17
 have hJ3 := hJ0.put 3 (.int .i64 ro) ⟨2, nd, li, ro, 0, 0, 0, 0, 0⟩ (by simp [ecA, wdz])
 clear hJ0
 obtain ⟨W3, hW3⟩ : ∃ V, V = (w.alloc (.cells (ecA ⟨2, nd, li, ro, ta, of, du, he, un⟩) 34)).alloc (.cells (ecA ⟨2, nd, li, ro, 0, 0, 0, 0, 0⟩) 34) := ⟨_, rfl⟩
 clear hJ3
 have hJ3 : JX w (w.heap.size) (w.heap.size + 1) (w.heap.size) ⟨2, nd, li, ro, ta, of, du, he, un⟩ ⟨2, nd, li, ro, 0, 0, 0, 0, 0⟩ W3 := by rw [hW3]; exact ⟨zoa (zna rfl), zna (by simp), .inl rfl, ((Below.refl _ w).alloc (Nat.le_refl _) _).alloc (by simp) _, by omega, by omega, by omega⟩
 simp only [ecA, wdz] at hW3
 go_upto_region 13 with fail
 try rw [← hW3]
 cases c0 : (0 == ta) with
 | false =>
  refine wp_region ?_
  refine wpOps_pure0 (fun i__ => ([(.pointer (some ⟨w.heap.size + 1, 3, none⟩)), (.int .i64 ro), (.pointer (some ⟨w.heap.size, 3, none⟩)), (.int .i64 ro), (.bool true), (.bool true), (.pointer (some ⟨w.heap.size + 1, 4, none⟩)), (.int .i64 0), (.pointer (some ⟨w.heap.size, 4, none⟩)), (.int .i64 ta), (.bool false), (.bool false), (.bool false), undef, undef, undef, undef, undef, (.bool false), (.bool false), undef, undef, undef, undef, undef, (.bool false), (.bool false), undef, undef, undef, undef, undef, (.bool false), (.bool false), undef, undef, undef, undef, undef, (.bool false), (.bool false)] : List Value).getD i__ undef) (fun V => JX w (w.heap.size) (w.heap.size + 1) (w.heap.size) ⟨2, nd, li, ro, ta, of, du, he, un⟩ ⟨2, nd, li, ro, 0, 0, 0, 0, 0⟩ V) (by kernel_rfl) hJ3 ?_ ?_
  · refine (sqc ?_ (sqc ?_ (sqc ?_ (sqc ?_ (sqc ?_ (sqc ?_ (sqc ?_ (sqc ?_ (sqc ?_ (sqc ?_ (sqc ?_ (sqc ?_ (sqc ?_ (sqc ?_ (sqc ?_ (sqc ?_ (sqc ?_ (sqc ?_ (sqc ?_ (sqc ?_ (sqc ?_ (sqc ?_ (sqc ?_ (sqc ?_ (sqc ?_ (sqc ?_ (sqc ?_ (sqc ?_ (sqc ?_ (sqc ?_ (sqc ?_ (sqc ?_ (sqc ?_ (sqc ?_ (sqc ?_ (sqc ?_ (sqc ?_ (sqc ?_ (sqc ?_ (sqc ?_ (sqc ?_ trivial)))))))))))))))))))))))))))))))))))))))))
    · exact zfa rfl trivial _ _ _ _ rfl rfl (fun w hw => faE3 w _ _)
    · exact zld rfl trivial _ _ _ rfl rfl (fun w hw => load_in ((zca hw.tg 3).trans rfl))
    · exact zfa rfl trivial _ _ _ _ rfl rfl (fun w hw => faE3 w _ _)
    · exact zld rfl trivial _ _ _ rfl rfl (fun w hw => load_in ((zca hw.bx 3).trans rfl))
    · exact zbo rfl trivial _ _ _ _ _ _ _ rfl rfl rfl (fun w hw => (bin_eql .i64 ro ro).trans (congrArg (fun z => Result.ok (Value.bool z) w) (by simp)))
    · exact zmv rfl trivial _ rfl (by kernel_rfl)
    · exact zfa rfl ⟨_, rfl, by kernel_rfl⟩ _ _ _ _ rfl rfl (fun w hw => faE4 w _ _)
    · exact zld rfl ⟨_, rfl, by kernel_rfl⟩ _ _ _ rfl rfl (fun w hw => load_in ((zca hw.tg 4).trans rfl))
    · exact zfa rfl ⟨_, rfl, by kernel_rfl⟩ _ _ _ _ rfl rfl (fun w hw => faE4 w _ _)
    · exact zld rfl ⟨_, rfl, by kernel_rfl⟩ _ _ _ rfl rfl (fun w hw => load_in ((zca hw.bx 4).trans rfl))
    · exact zbo rfl ⟨_, rfl, by kernel_rfl⟩ _ _ _ _ _ _ _ rfl rfl rfl (fun w hw => by rw [← c0]; exact bin_eql _ _ _)
    · exact step_pick rfl trivial _ _ _ true rfl (by kernel_rfl) (by kernel_rfl)
    · exact zmv rfl trivial _ rfl (by kernel_rfl)
    · exact zsk rfl 12 true 68 (.bool false) rfl rfl (by kernel_rfl) (by intro h; cases h) rfl
    · exact zsk rfl 12 true 68 (.bool false) rfl rfl (by kernel_rfl) (by intro h; cases h) rfl
    · exact zsk rfl 12 true 68 (.bool false) rfl rfl (by kernel_rfl) (by intro h; cases h) rfl
    · exact zsk rfl 12 true 68 (.bool false) rfl rfl (by kernel_rfl) (by intro h; cases h) rfl
    · exact zsk rfl 12 true 68 (.bool false) rfl rfl (by kernel_rfl) (by intro h; cases h) rfl
    · exact step_pick rfl trivial _ _ _ false rfl (by kernel_rfl) (by kernel_rfl)
    · exact zmv rfl trivial _ rfl (by kernel_rfl)
    · exact zsk rfl 19 true 75 (.bool false) rfl rfl (by kernel_rfl) (by intro h; cases h) rfl
    · exact zsk rfl 19 true 75 (.bool false) rfl rfl (by kernel_rfl) (by intro h; cases h) rfl
    · exact zsk rfl 19 true 75 (.bool false) rfl rfl (by kernel_rfl) (by intro h; cases h) rfl
    · exact zsk rfl 19 true 75 (.bool false) rfl rfl (by kernel_rfl) (by intro h; cases h) rfl
    · exact zsk rfl 19 true 75 (.bool false) rfl rfl (by kernel_rfl) (by intro h; cases h) rfl
    · exact step_pick rfl trivial _ _ _ false rfl (by kernel_rfl) (by kernel_rfl)
    · exact zmv rfl trivial _ rfl (by kernel_rfl)
    · exact zsk rfl 26 true 82 (.bool false) rfl rfl (by kernel_rfl) (by intro h; cases h) rfl
    · exact zsk rfl 26 true 82 (.bool false) rfl rfl (by kernel_rfl) (by intro h; cases h) rfl
    · exact zsk rfl 26 true 82 (.bool false) rfl rfl (by kernel_rfl) (by intro h; cases h) rfl
    · exact zsk rfl 26 true 82 (.bool false) rfl rfl (by kernel_rfl) (by intro h; cases h) rfl
    · exact zsk rfl 26 true 82 (.bool false) rfl rfl (by kernel_rfl) (by intro h; cases h) rfl
    · exact step_pick rfl trivial _ _ _ false rfl (by kernel_rfl) (by kernel_rfl)
    · exact zmv rfl trivial _ rfl (by kernel_rfl)
    · exact zsk rfl 33 true 89 (.bool false) rfl rfl (by kernel_rfl) (by intro h; cases h) rfl
    · exact zsk rfl 33 true 89 (.bool false) rfl rfl (by kernel_rfl) (by intro h; cases h) rfl
    · exact zsk rfl 33 true 89 (.bool false) rfl rfl (by kernel_rfl) (by intro h; cases h) rfl
    · exact zsk rfl 33 true 89 (.bool false) rfl rfl (by kernel_rfl) (by intro h; cases h) rfl
    · exact zsk rfl 33 true 89 (.bool false) rfl rfl (by kernel_rfl) (by intro h; cases h) rfl
    · exact step_pick rfl trivial _ _ _ false rfl (by kernel_rfl) (by kernel_rfl)
    · exact zas rfl trivial _ rfl (by kernel_rfl) (fun _ h => h)
  intro W hW
  simp only [Exit.then, finL, List.getD_cons_zero, List.getD_cons_succ, Nat.zero_add, Nat.reduceAdd, List.setIfInBounds_toArray, List.set_cons_zero, List.set_cons_succ]
  go_wp2
  go_ret
  exact ⟨by rw [hy]; exact congrArg (fun z => Ending.returned (Value.bool z)) (Eq.symm (Bool.eq_false_iff.2 (fun hE => by have hE2 := (eqEv_iff _ _).1 hE; simp [bareE] at hE2; simp at c0; omega))), hW.bl⟩
 | true =>
  cases c1 : (0 == of) with
  | false =>
    refine wp_region ?_
    refine wpOps_pure0 (fun i__ => ([(.pointer (some ⟨w.heap.size + 1, 3, none⟩)), (.int .i64 ro), (.pointer (some ⟨w.heap.size, 3, none⟩)), (.int .i64 ro), (.bool true), (.bool true), (.pointer (some ⟨w.heap.size + 1, 4, none⟩)), (.int .i64 0), (.pointer (some ⟨w.heap.size, 4, none⟩)), (.int .i64 ta), (.bool true), (.bool true), (.bool true), (.pointer (some ⟨w.heap.size + 1, 5, none⟩)), (.int .i64 0), (.pointer (some ⟨w.heap.size, 5, none⟩)), (.int .i64 of), (.bool false), (.bool false), (.bool false), undef, undef, undef, undef, undef, (.bool false), (.bool false), undef, undef, undef, undef, undef, (.bool false), (.bool false), undef, undef, undef, undef, undef, (.bool false), (.bool false)] : List Value).getD i__ undef) (fun V => JX w (w.heap.size) (w.heap.size + 1) (w.heap.size) ⟨2, nd, li, ro, ta, of, du, he, un⟩ ⟨2, nd, li, ro, 0, 0, 0, 0, 0⟩ V) (by kernel_rfl) hJ3 ?_ ?_
    · refine (sqc ?_ (sqc ?_ (sqc ?_ (sqc ?_ (sqc ?_ (sqc ?_ (sqc ?_ (sqc ?_ (sqc ?_ (sqc ?_ (sqc ?_ (sqc ?_ (sqc ?_ (sqc ?_ (sqc ?_ (sqc ?_ (sqc ?_ (sqc ?_ (sqc ?_ (sqc ?_ (sqc ?_ (sqc ?_ (sqc ?_ (sqc ?_ (sqc ?_ (sqc ?_ (sqc ?_ (sqc ?_ (sqc ?_ (sqc ?_ (sqc ?_ (sqc ?_ (sqc ?_ (sqc ?_ (sqc ?_ (sqc ?_ (sqc ?_ (sqc ?_ (sqc ?_ (sqc ?_ (sqc ?_ trivial)))))))))))))))))))))))))))))))))))))))))
      · exact zfa rfl trivial _ _ _ _ rfl rfl (fun w hw => faE3 w _ _)
      · exact zld rfl trivial _ _ _ rfl rfl (fun w hw => load_in ((zca hw.tg 3).trans rfl))
      · exact zfa rfl trivial _ _ _ _ rfl rfl (fun w hw => faE3 w _ _)
      · exact zld rfl trivial _ _ _ rfl rfl (fun w hw => load_in ((zca hw.bx 3).trans rfl))
      · exact zbo rfl trivial _ _ _ _ _ _ _ rfl rfl rfl (fun w hw => (bin_eql .i64 ro ro).trans (congrArg (fun z => Result.ok (Value.bool z) w) (by simp)))
      · exact zmv rfl trivial _ rfl (by kernel_rfl)
      · exact zfa rfl ⟨_, rfl, by kernel_rfl⟩ _ _ _ _ rfl rfl (fun w hw => faE4 w _ _)
      · exact zld rfl ⟨_, rfl, by kernel_rfl⟩ _ _ _ rfl rfl (fun w hw => load_in ((zca hw.tg 4).trans rfl))
      · exact zfa rfl ⟨_, rfl, by kernel_rfl⟩ _ _ _ _ rfl rfl (fun w hw => faE4 w _ _)
      · exact zld rfl ⟨_, rfl, by kernel_rfl⟩ _ _ _ rfl rfl (fun w hw => load_in ((zca hw.bx 4).trans rfl))
      · exact zbo rfl ⟨_, rfl, by kernel_rfl⟩ _ _ _ _ _ _ _ rfl rfl rfl (fun w hw => by rw [← c0]; exact bin_eql _ _ _)
      · exact step_pick rfl trivial _ _ _ true rfl (by kernel_rfl) (by kernel_rfl)
      · exact zmv rfl trivial _ rfl (by kernel_rfl)
      · exact zfa rfl ⟨_, rfl, by kernel_rfl⟩ _ _ _ _ rfl rfl (fun w hw => faE5 w _ _)
      · exact zld rfl ⟨_, rfl, by kernel_rfl⟩ _ _ _ rfl rfl (fun w hw => load_in ((zca hw.tg 5).trans rfl))
      · exact zfa rfl ⟨_, rfl, by kernel_rfl⟩ _ _ _ _ rfl rfl (fun w hw => faE5 w _ _)
      · exact zld rfl ⟨_, rfl, by kernel_rfl⟩ _ _ _ rfl rfl (fun w hw => load_in ((zca hw.bx 5).trans rfl))
      · exact zbo rfl ⟨_, rfl, by kernel_rfl⟩ _ _ _ _ _ _ _ rfl rfl rfl (fun w hw => by rw [← c1]; exact bin_eql _ _ _)
      · exact step_pick rfl trivial _ _ _ true rfl (by kernel_rfl) (by kernel_rfl)
      · exact zmv rfl trivial _ rfl (by kernel_rfl)
      · exact zsk rfl 19 true 75 (.bool false) rfl rfl (by kernel_rfl) (by intro h; cases h) rfl
      · exact zsk rfl 19 true 75 (.bool false) rfl rfl (by kernel_rfl) (by intro h; cases h) rfl
      · exact zsk rfl 19 true 75 (.bool false) rfl rfl (by kernel_rfl) (by intro h; cases h) rfl
      · exact zsk rfl 19 true 75 (.bool false) rfl rfl (by kernel_rfl) (by intro h; cases h) rfl
      · exact zsk rfl 19 true 75 (.bool false) rfl rfl (by kernel_rfl) (by intro h; cases h) rfl
      · exact step_pick rfl trivial _ _ _ false rfl (by kernel_rfl) (by kernel_rfl)
      · exact zmv rfl trivial _ rfl (by kernel_rfl)
      · exact zsk rfl 26 true 82 (.bool false) rfl rfl (by kernel_rfl) (by intro h; cases h) rfl
      · exact zsk rfl 26 true 82 (.bool false) rfl rfl (by kernel_rfl) (by intro h; cases h) rfl
      · exact zsk rfl 26 true 82 (.bool false) rfl rfl (by kernel_rfl) (by intro h; cases h) rfl
      · exact zsk rfl 26 true 82 (.bool false) rfl rfl (by kernel_rfl) (by intro h; cases h) rfl
      · exact zsk rfl 26 true 82 (.bool false) rfl rfl (by kernel_rfl) (by intro h; cases h) rfl
      · exact step_pick rfl trivial _ _ _ false rfl (by kernel_rfl) (by kernel_rfl)
      · exact zmv rfl trivial _ rfl (by kernel_rfl)
      · exact zsk rfl 33 true 89 (.bool false) rfl rfl (by kernel_rfl) (by intro h; cases h) rfl
      · exact zsk rfl 33 true 89 (.bool false) rfl rfl (by kernel_rfl) (by intro h; cases h) rfl
      · exact zsk rfl 33 true 89 (.bool false) rfl rfl (by kernel_rfl) (by intro h; cases h) rfl
      · exact zsk rfl 33 true 89 (.bool false) rfl rfl (by kernel_rfl) (by intro h; cases h) rfl
      · exact zsk rfl 33 true 89 (.bool false) rfl rfl (by kernel_rfl) (by intro h; cases h) rfl
      · exact step_pick rfl trivial _ _ _ false rfl (by kernel_rfl) (by kernel_rfl)
      · exact zas rfl trivial _ rfl (by kernel_rfl) (fun _ h => h)
    intro W hW
    simp only [Exit.then, finL, List.getD_cons_zero, List.getD_cons_succ, Nat.zero_add, Nat.reduceAdd, List.setIfInBounds_toArray, List.set_cons_zero, List.set_cons_succ]
    go_wp2
    go_ret
    exact ⟨by rw [hy]; exact congrArg (fun z => Ending.returned (Value.bool z)) (Eq.symm (Bool.eq_false_iff.2 (fun hE => by have hE2 := (eqEv_iff _ _).1 hE; simp [bareE] at hE2; simp at c1; omega))), hW.bl⟩
  | true =>
    cases c2 : (0 == du) with
    | false =>
      refine wp_region ?_
      refine wpOps_pure0 (fun i__ => ([(.pointer (some ⟨w.heap.size + 1, 3, none⟩)), (.int .i64 ro), (.pointer (some ⟨w.heap.size, 3, none⟩)), (.int .i64 ro), (.bool true), (.bool true), (.pointer (some ⟨w.heap.size + 1, 4, none⟩)), (.int .i64 0), (.pointer (some ⟨w.heap.size, 4, none⟩)), (.int .i64 ta), (.bool true), (.bool true), (.bool true), (.pointer (some ⟨w.heap.size + 1, 5, none⟩)), (.int .i64 0), (.pointer (some ⟨w.heap.size, 5, none⟩)), (.int .i64 of), (.bool true), (.bool true), (.bool true), (.pointer (some ⟨w.heap.size + 1, 6, none⟩)), (.int .i64 0), (.pointer (some ⟨w.heap.size, 6, none⟩)), (.int .i64 du), (.bool false), (.bool false), (.bool false), undef, undef, undef, undef, undef, (.bool false), (.bool false), undef, undef, undef, undef, undef, (.bool false), (.bool false)] : List Value).getD i__ undef) (fun V => JX w (w.heap.size) (w.heap.size + 1) (w.heap.size) ⟨2, nd, li, ro, ta, of, du, he, un⟩ ⟨2, nd, li, ro, 0, 0, 0, 0, 0⟩ V) (by kernel_rfl) hJ3 ?_ ?_
      · refine (sqc ?_ (sqc ?_ (sqc ?_ (sqc ?_ (sqc ?_ (sqc ?_ (sqc ?_ (sqc ?_ (sqc ?_ (sqc ?_ (sqc ?_ (sqc ?_ (sqc ?_ (sqc ?_ (sqc ?_ (sqc ?_ (sqc ?_ (sqc ?_ (sqc ?_ (sqc ?_ (sqc ?_ (sqc ?_ (sqc ?_ (sqc ?_ (sqc ?_ (sqc ?_ (sqc ?_ (sqc ?_ (sqc ?_ (sqc ?_ (sqc ?_ (sqc ?_ (sqc ?_ (sqc ?_ (sqc ?_ (sqc ?_ (sqc ?_ (sqc ?_ (sqc ?_ (sqc ?_ (sqc ?_ trivial)))))))))))))))))))))))))))))))))))))))))
        · exact zfa rfl trivial _ _ _ _ rfl rfl (fun w hw => faE3 w _ _)
        · exact zld rfl trivial _ _ _ rfl rfl (fun w hw => load_in ((zca hw.tg 3).trans rfl))
        · exact zfa rfl trivial _ _ _ _ rfl rfl (fun w hw => faE3 w _ _)
        · exact zld rfl trivial _ _ _ rfl rfl (fun w hw => load_in ((zca hw.bx 3).trans rfl))
        · exact zbo rfl trivial _ _ _ _ _ _ _ rfl rfl rfl (fun w hw => (bin_eql .i64 ro ro).trans (congrArg (fun z => Result.ok (Value.bool z) w) (by simp)))
        · exact zmv rfl trivial _ rfl (by kernel_rfl)
        · exact zfa rfl ⟨_, rfl, by kernel_rfl⟩ _ _ _ _ rfl rfl (fun w hw => faE4 w _ _)
        · exact zld rfl ⟨_, rfl, by kernel_rfl⟩ _ _ _ rfl rfl (fun w hw => load_in ((zca hw.tg 4).trans rfl))
        · exact zfa rfl ⟨_, rfl, by kernel_rfl⟩ _ _ _ _ rfl rfl (fun w hw => faE4 w _ _)
        · exact zld rfl ⟨_, rfl, by kernel_rfl⟩ _ _ _ rfl rfl (fun w hw => load_in ((zca hw.bx 4).trans rfl))
        · exact zbo rfl ⟨_, rfl, by kernel_rfl⟩ _ _ _ _ _ _ _ rfl rfl rfl (fun w hw => by rw [← c0]; exact bin_eql _ _ _)
        · exact step_pick rfl trivial _ _ _ true rfl (by kernel_rfl) (by kernel_rfl)
        · exact zmv rfl trivial _ rfl (by kernel_rfl)
        · exact zfa rfl ⟨_, rfl, by kernel_rfl⟩ _ _ _ _ rfl rfl (fun w hw => faE5 w _ _)
        · exact zld rfl ⟨_, rfl, by kernel_rfl⟩ _ _ _ rfl rfl (fun w hw => load_in ((zca hw.tg 5).trans rfl))
        · exact zfa rfl ⟨_, rfl, by kernel_rfl⟩ _ _ _ _ rfl rfl (fun w hw => faE5 w _ _)
        · exact zld rfl ⟨_, rfl, by kernel_rfl⟩ _ _ _ rfl rfl (fun w hw => load_in ((zca hw.bx 5).trans rfl))
        · exact zbo rfl ⟨_, rfl, by kernel_rfl⟩ _ _ _ _ _ _ _ rfl rfl rfl (fun w hw => by rw [← c1]; exact bin_eql _ _ _)
        · exact step_pick rfl trivial _ _ _ true rfl (by kernel_rfl) (by kernel_rfl)
        · exact zmv rfl trivial _ rfl (by kernel_rfl)
        · exact zfa rfl ⟨_, rfl, by kernel_rfl⟩ _ _ _ _ rfl rfl (fun w hw => faE6 w _ _)
        · exact zld rfl ⟨_, rfl, by kernel_rfl⟩ _ _ _ rfl rfl (fun w hw => load_in ((zca hw.tg 6).trans rfl))
        · exact zfa rfl ⟨_, rfl, by kernel_rfl⟩ _ _ _ _ rfl rfl (fun w hw => faE6 w _ _)
        · exact zld rfl ⟨_, rfl, by kernel_rfl⟩ _ _ _ rfl rfl (fun w hw => load_in ((zca hw.bx 6).trans rfl))
        · exact zbo rfl ⟨_, rfl, by kernel_rfl⟩ _ _ _ _ _ _ _ rfl rfl rfl (fun w hw => by rw [← c2]; exact bin_eql _ _ _)
        · exact step_pick rfl trivial _ _ _ true rfl (by kernel_rfl) (by kernel_rfl)
        · exact zmv rfl trivial _ rfl (by kernel_rfl)
        · exact zsk rfl 26 true 82 (.bool false) rfl rfl (by kernel_rfl) (by intro h; cases h) rfl
        · exact zsk rfl 26 true 82 (.bool false) rfl rfl (by kernel_rfl) (by intro h; cases h) rfl
        · exact zsk rfl 26 true 82 (.bool false) rfl rfl (by kernel_rfl) (by intro h; cases h) rfl
        · exact zsk rfl 26 true 82 (.bool false) rfl rfl (by kernel_rfl) (by intro h; cases h) rfl
        · exact zsk rfl 26 true 82 (.bool false) rfl rfl (by kernel_rfl) (by intro h; cases h) rfl
        · exact step_pick rfl trivial _ _ _ false rfl (by kernel_rfl) (by kernel_rfl)
        · exact zmv rfl trivial _ rfl (by kernel_rfl)
        · exact zsk rfl 33 true 89 (.bool false) rfl rfl (by kernel_rfl) (by intro h; cases h) rfl
        · exact zsk rfl 33 true 89 (.bool false) rfl rfl (by kernel_rfl) (by intro h; cases h) rfl
        · exact zsk rfl 33 true 89 (.bool false) rfl rfl (by kernel_rfl) (by intro h; cases h) rfl
        · exact zsk rfl 33 true 89 (.bool false) rfl rfl (by kernel_rfl) (by intro h; cases h) rfl
        · exact zsk rfl 33 true 89 (.bool false) rfl rfl (by kernel_rfl) (by intro h; cases h) rfl
        · exact step_pick rfl trivial _ _ _ false rfl (by kernel_rfl) (by kernel_rfl)
        · exact zas rfl trivial _ rfl (by kernel_rfl) (fun _ h => h)
      intro W hW
      simp only [Exit.then, finL, List.getD_cons_zero, List.getD_cons_succ, Nat.zero_add, Nat.reduceAdd, List.setIfInBounds_toArray, List.set_cons_zero, List.set_cons_succ]
      go_wp2
      go_ret
      exact ⟨by rw [hy]; exact congrArg (fun z => Ending.returned (Value.bool z)) (Eq.symm (Bool.eq_false_iff.2 (fun hE => by have hE2 := (eqEv_iff _ _).1 hE; simp [bareE] at hE2; simp at c2; omega))), hW.bl⟩
    | true =>
      cases c3 : decide (0 = he) with
      | false =>
        refine wp_region ?_
        refine wpOps_pure0 (fun i__ => ([(.pointer (some ⟨w.heap.size + 1, 3, none⟩)), (.int .i64 ro), (.pointer (some ⟨w.heap.size, 3, none⟩)), (.int .i64 ro), (.bool true), (.bool true), (.pointer (some ⟨w.heap.size + 1, 4, none⟩)), (.int .i64 0), (.pointer (some ⟨w.heap.size, 4, none⟩)), (.int .i64 ta), (.bool true), (.bool true), (.bool true), (.pointer (some ⟨w.heap.size + 1, 5, none⟩)), (.int .i64 0), (.pointer (some ⟨w.heap.size, 5, none⟩)), (.int .i64 of), (.bool true), (.bool true), (.bool true), (.pointer (some ⟨w.heap.size + 1, 6, none⟩)), (.int .i64 0), (.pointer (some ⟨w.heap.size, 6, none⟩)), (.int .i64 du), (.bool true), (.bool true), (.bool true), (.pointer (some ⟨w.heap.size + 1, 7, none⟩)), (sv 0), (.pointer (some ⟨w.heap.size, 7, none⟩)), (sv he), (.bool false), (.bool false), (.bool false), undef, undef, undef, undef, undef, (.bool false), (.bool false)] : List Value).getD i__ undef) (fun V => JX w (w.heap.size) (w.heap.size + 1) (w.heap.size) ⟨2, nd, li, ro, ta, of, du, he, un⟩ ⟨2, nd, li, ro, 0, 0, 0, 0, 0⟩ V) (by kernel_rfl) hJ3 ?_ ?_
        · refine (sqc ?_ (sqc ?_ (sqc ?_ (sqc ?_ (sqc ?_ (sqc ?_ (sqc ?_ (sqc ?_ (sqc ?_ (sqc ?_ (sqc ?_ (sqc ?_ (sqc ?_ (sqc ?_ (sqc ?_ (sqc ?_ (sqc ?_ (sqc ?_ (sqc ?_ (sqc ?_ (sqc ?_ (sqc ?_ (sqc ?_ (sqc ?_ (sqc ?_ (sqc ?_ (sqc ?_ (sqc ?_ (sqc ?_ (sqc ?_ (sqc ?_ (sqc ?_ (sqc ?_ (sqc ?_ (sqc ?_ (sqc ?_ (sqc ?_ (sqc ?_ (sqc ?_ (sqc ?_ (sqc ?_ trivial)))))))))))))))))))))))))))))))))))))))))
          · exact zfa rfl trivial _ _ _ _ rfl rfl (fun w hw => faE3 w _ _)
          · exact zld rfl trivial _ _ _ rfl rfl (fun w hw => load_in ((zca hw.tg 3).trans rfl))
          · exact zfa rfl trivial _ _ _ _ rfl rfl (fun w hw => faE3 w _ _)
          · exact zld rfl trivial _ _ _ rfl rfl (fun w hw => load_in ((zca hw.bx 3).trans rfl))
          · exact zbo rfl trivial _ _ _ _ _ _ _ rfl rfl rfl (fun w hw => (bin_eql .i64 ro ro).trans (congrArg (fun z => Result.ok (Value.bool z) w) (by simp)))
          · exact zmv rfl trivial _ rfl (by kernel_rfl)
          · exact zfa rfl ⟨_, rfl, by kernel_rfl⟩ _ _ _ _ rfl rfl (fun w hw => faE4 w _ _)
          · exact zld rfl ⟨_, rfl, by kernel_rfl⟩ _ _ _ rfl rfl (fun w hw => load_in ((zca hw.tg 4).trans rfl))
          · exact zfa rfl ⟨_, rfl, by kernel_rfl⟩ _ _ _ _ rfl rfl (fun w hw => faE4 w _ _)
          · exact zld rfl ⟨_, rfl, by kernel_rfl⟩ _ _ _ rfl rfl (fun w hw => load_in ((zca hw.bx 4).trans rfl))
          · exact zbo rfl ⟨_, rfl, by kernel_rfl⟩ _ _ _ _ _ _ _ rfl rfl rfl (fun w hw => by rw [← c0]; exact bin_eql _ _ _)
          · exact step_pick rfl trivial _ _ _ true rfl (by kernel_rfl) (by kernel_rfl)
          · exact zmv rfl trivial _ rfl (by kernel_rfl)
          · exact zfa rfl ⟨_, rfl, by kernel_rfl⟩ _ _ _ _ rfl rfl (fun w hw => faE5 w _ _)
          · exact zld rfl ⟨_, rfl, by kernel_rfl⟩ _ _ _ rfl rfl (fun w hw => load_in ((zca hw.tg 5).trans rfl))
          · exact zfa rfl ⟨_, rfl, by kernel_rfl⟩ _ _ _ _ rfl rfl (fun w hw => faE5 w _ _)
          · exact zld rfl ⟨_, rfl, by kernel_rfl⟩ _ _ _ rfl rfl (fun w hw => load_in ((zca hw.bx 5).trans rfl))
          · exact zbo rfl ⟨_, rfl, by kernel_rfl⟩ _ _ _ _ _ _ _ rfl rfl rfl (fun w hw => by rw [← c1]; exact bin_eql _ _ _)
          · exact step_pick rfl trivial _ _ _ true rfl (by kernel_rfl) (by kernel_rfl)
          · exact zmv rfl trivial _ rfl (by kernel_rfl)
          · exact zfa rfl ⟨_, rfl, by kernel_rfl⟩ _ _ _ _ rfl rfl (fun w hw => faE6 w _ _)
          · exact zld rfl ⟨_, rfl, by kernel_rfl⟩ _ _ _ rfl rfl (fun w hw => load_in ((zca hw.tg 6).trans rfl))
          · exact zfa rfl ⟨_, rfl, by kernel_rfl⟩ _ _ _ _ rfl rfl (fun w hw => faE6 w _ _)
          · exact zld rfl ⟨_, rfl, by kernel_rfl⟩ _ _ _ rfl rfl (fun w hw => load_in ((zca hw.bx 6).trans rfl))
          · exact zbo rfl ⟨_, rfl, by kernel_rfl⟩ _ _ _ _ _ _ _ rfl rfl rfl (fun w hw => by rw [← c2]; exact bin_eql _ _ _)
          · exact step_pick rfl trivial _ _ _ true rfl (by kernel_rfl) (by kernel_rfl)
          · exact zmv rfl trivial _ rfl (by kernel_rfl)
          · exact zfa rfl ⟨_, rfl, by kernel_rfl⟩ _ _ _ _ rfl rfl (fun w hw => faE7 w _ _)
          · exact zld rfl ⟨_, rfl, by kernel_rfl⟩ _ _ _ rfl rfl (fun w hw => load_se (N := 0) ((zca hw.tg 7).trans rfl) ((zca hw.tg 8).trans rfl) ((zca hw.tg 9).trans rfl) ((zca hw.tg 10).trans rfl))
          · exact zfa rfl ⟨_, rfl, by kernel_rfl⟩ _ _ _ _ rfl rfl (fun w hw => faE7 w _ _)
          · exact zld rfl ⟨_, rfl, by kernel_rfl⟩ _ _ _ rfl rfl (fun w hw => load_se (N := he) ((zca hw.bx 7).trans rfl) ((zca hw.bx 8).trans rfl) ((zca hw.bx 9).trans rfl) ((zca hw.bx 10).trans rfl))
          · exact zbo rfl ⟨_, rfl, by kernel_rfl⟩ _ _ _ _ _ _ _ rfl rfl rfl (fun w hw => by rw [← c3]; exact eql4 _ _ 0 he s0lt hhe w)
          · exact step_pick rfl trivial _ _ _ true rfl (by kernel_rfl) (by kernel_rfl)
          · exact zmv rfl trivial _ rfl (by kernel_rfl)
          · exact zsk rfl 33 true 89 (.bool false) rfl rfl (by kernel_rfl) (by intro h; cases h) rfl
          · exact zsk rfl 33 true 89 (.bool false) rfl rfl (by kernel_rfl) (by intro h; cases h) rfl
          · exact zsk rfl 33 true 89 (.bool false) rfl rfl (by kernel_rfl) (by intro h; cases h) rfl
          · exact zsk rfl 33 true 89 (.bool false) rfl rfl (by kernel_rfl) (by intro h; cases h) rfl
          · exact zsk rfl 33 true 89 (.bool false) rfl rfl (by kernel_rfl) (by intro h; cases h) rfl
          · exact step_pick rfl trivial _ _ _ false rfl (by kernel_rfl) (by kernel_rfl)
          · exact zas rfl trivial _ rfl (by kernel_rfl) (fun _ h => h)
        intro W hW
        simp only [Exit.then, finL, List.getD_cons_zero, List.getD_cons_succ, Nat.zero_add, Nat.reduceAdd, List.setIfInBounds_toArray, List.set_cons_zero, List.set_cons_succ]
        go_wp2
        go_ret
        exact ⟨by rw [hy]; exact congrArg (fun z => Ending.returned (Value.bool z)) (Eq.symm (Bool.eq_false_iff.2 (fun hE => by have hE2 := (eqEv_iff _ _).1 hE; simp [bareE] at hE2; simp at c3; omega))), hW.bl⟩
      | true =>
        cases c4 : decide (0 = un) with
        | false =>
          refine wp_region ?_
          refine wpOps_pure0 (fun i__ => ([(.pointer (some ⟨w.heap.size + 1, 3, none⟩)), (.int .i64 ro), (.pointer (some ⟨w.heap.size, 3, none⟩)), (.int .i64 ro), (.bool true), (.bool true), (.pointer (some ⟨w.heap.size + 1, 4, none⟩)), (.int .i64 0), (.pointer (some ⟨w.heap.size, 4, none⟩)), (.int .i64 ta), (.bool true), (.bool true), (.bool true), (.pointer (some ⟨w.heap.size + 1, 5, none⟩)), (.int .i64 0), (.pointer (some ⟨w.heap.size, 5, none⟩)), (.int .i64 of), (.bool true), (.bool true), (.bool true), (.pointer (some ⟨w.heap.size + 1, 6, none⟩)), (.int .i64 0), (.pointer (some ⟨w.heap.size, 6, none⟩)), (.int .i64 du), (.bool true), (.bool true), (.bool true), (.pointer (some ⟨w.heap.size + 1, 7, none⟩)), (sv 0), (.pointer (some ⟨w.heap.size, 7, none⟩)), (sv he), (.bool true), (.bool true), (.bool true), (.pointer (some ⟨w.heap.size + 1, 11, none⟩)), (sv 0), (.pointer (some ⟨w.heap.size, 11, none⟩)), (sv un), (.bool false), (.bool false), (.bool false)] : List Value).getD i__ undef) (fun V => JX w (w.heap.size) (w.heap.size + 1) (w.heap.size) ⟨2, nd, li, ro, ta, of, du, he, un⟩ ⟨2, nd, li, ro, 0, 0, 0, 0, 0⟩ V) (by kernel_rfl) hJ3 ?_ ?_
          · refine (sqc ?_ (sqc ?_ (sqc ?_ (sqc ?_ (sqc ?_ (sqc ?_ (sqc ?_ (sqc ?_ (sqc ?_ (sqc ?_ (sqc ?_ (sqc ?_ (sqc ?_ (sqc ?_ (sqc ?_ (sqc ?_ (sqc ?_ (sqc ?_ (sqc ?_ (sqc ?_ (sqc ?_ (sqc ?_ (sqc ?_ (sqc ?_ (sqc ?_ (sqc ?_ (sqc ?_ (sqc ?_ (sqc ?_ (sqc ?_ (sqc ?_ (sqc ?_ (sqc ?_ (sqc ?_ (sqc ?_ (sqc ?_ (sqc ?_ (sqc ?_ (sqc ?_ (sqc ?_ (sqc ?_ trivial)))))))))))))))))))))))))))))))))))))))))
            · exact zfa rfl trivial _ _ _ _ rfl rfl (fun w hw => faE3 w _ _)
            · exact zld rfl trivial _ _ _ rfl rfl (fun w hw => load_in ((zca hw.tg 3).trans rfl))
            · exact zfa rfl trivial _ _ _ _ rfl rfl (fun w hw => faE3 w _ _)
            · exact zld rfl trivial _ _ _ rfl rfl (fun w hw => load_in ((zca hw.bx 3).trans rfl))
            · exact zbo rfl trivial _ _ _ _ _ _ _ rfl rfl rfl (fun w hw => (bin_eql .i64 ro ro).trans (congrArg (fun z => Result.ok (Value.bool z) w) (by simp)))
            · exact zmv rfl trivial _ rfl (by kernel_rfl)
            · exact zfa rfl ⟨_, rfl, by kernel_rfl⟩ _ _ _ _ rfl rfl (fun w hw => faE4 w _ _)
            · exact zld rfl ⟨_, rfl, by kernel_rfl⟩ _ _ _ rfl rfl (fun w hw => load_in ((zca hw.tg 4).trans rfl))
            · exact zfa rfl ⟨_, rfl, by kernel_rfl⟩ _ _ _ _ rfl rfl (fun w hw => faE4 w _ _)
            · exact zld rfl ⟨_, rfl, by kernel_rfl⟩ _ _ _ rfl rfl (fun w hw => load_in ((zca hw.bx 4).trans rfl))
            · exact zbo rfl ⟨_, rfl, by kernel_rfl⟩ _ _ _ _ _ _ _ rfl rfl rfl (fun w hw => by rw [← c0]; exact bin_eql _ _ _)
            · exact step_pick rfl trivial _ _ _ true rfl (by kernel_rfl) (by kernel_rfl)
            · exact zmv rfl trivial _ rfl (by kernel_rfl)
            · exact zfa rfl ⟨_, rfl, by kernel_rfl⟩ _ _ _ _ rfl rfl (fun w hw => faE5 w _ _)
            · exact zld rfl ⟨_, rfl, by kernel_rfl⟩ _ _ _ rfl rfl (fun w hw => load_in ((zca hw.tg 5).trans rfl))
            · exact zfa rfl ⟨_, rfl, by kernel_rfl⟩ _ _ _ _ rfl rfl (fun w hw => faE5 w _ _)
            · exact zld rfl ⟨_, rfl, by kernel_rfl⟩ _ _ _ rfl rfl (fun w hw => load_in ((zca hw.bx 5).trans rfl))
            · exact zbo rfl ⟨_, rfl, by kernel_rfl⟩ _ _ _ _ _ _ _ rfl rfl rfl (fun w hw => by rw [← c1]; exact bin_eql _ _ _)
            · exact step_pick rfl trivial _ _ _ true rfl (by kernel_rfl) (by kernel_rfl)
            · exact zmv rfl trivial _ rfl (by kernel_rfl)
            · exact zfa rfl ⟨_, rfl, by kernel_rfl⟩ _ _ _ _ rfl rfl (fun w hw => faE6 w _ _)
            · exact zld rfl ⟨_, rfl, by kernel_rfl⟩ _ _ _ rfl rfl (fun w hw => load_in ((zca hw.tg 6).trans rfl))
            · exact zfa rfl ⟨_, rfl, by kernel_rfl⟩ _ _ _ _ rfl rfl (fun w hw => faE6 w _ _)
            · exact zld rfl ⟨_, rfl, by kernel_rfl⟩ _ _ _ rfl rfl (fun w hw => load_in ((zca hw.bx 6).trans rfl))
            · exact zbo rfl ⟨_, rfl, by kernel_rfl⟩ _ _ _ _ _ _ _ rfl rfl rfl (fun w hw => by rw [← c2]; exact bin_eql _ _ _)
            · exact step_pick rfl trivial _ _ _ true rfl (by kernel_rfl) (by kernel_rfl)
            · exact zmv rfl trivial _ rfl (by kernel_rfl)
            · exact zfa rfl ⟨_, rfl, by kernel_rfl⟩ _ _ _ _ rfl rfl (fun w hw => faE7 w _ _)
            · exact zld rfl ⟨_, rfl, by kernel_rfl⟩ _ _ _ rfl rfl (fun w hw => load_se (N := 0) ((zca hw.tg 7).trans rfl) ((zca hw.tg 8).trans rfl) ((zca hw.tg 9).trans rfl) ((zca hw.tg 10).trans rfl))
            · exact zfa rfl ⟨_, rfl, by kernel_rfl⟩ _ _ _ _ rfl rfl (fun w hw => faE7 w _ _)
            · exact zld rfl ⟨_, rfl, by kernel_rfl⟩ _ _ _ rfl rfl (fun w hw => load_se (N := he) ((zca hw.bx 7).trans rfl) ((zca hw.bx 8).trans rfl) ((zca hw.bx 9).trans rfl) ((zca hw.bx 10).trans rfl))
            · exact zbo rfl ⟨_, rfl, by kernel_rfl⟩ _ _ _ _ _ _ _ rfl rfl rfl (fun w hw => by rw [← c3]; exact eql4 _ _ 0 he s0lt hhe w)
            · exact step_pick rfl trivial _ _ _ true rfl (by kernel_rfl) (by kernel_rfl)
            · exact zmv rfl trivial _ rfl (by kernel_rfl)
            · exact zfa rfl ⟨_, rfl, by kernel_rfl⟩ _ _ _ _ rfl rfl (fun w hw => faE8 w _ _)
            · exact zld rfl ⟨_, rfl, by kernel_rfl⟩ _ _ _ rfl rfl (fun w hw => load_se (N := 0) ((zca hw.tg 11).trans rfl) ((zca hw.tg 12).trans rfl) ((zca hw.tg 13).trans rfl) ((zca hw.tg 14).trans rfl))
            · exact zfa rfl ⟨_, rfl, by kernel_rfl⟩ _ _ _ _ rfl rfl (fun w hw => faE8 w _ _)
            · exact zld rfl ⟨_, rfl, by kernel_rfl⟩ _ _ _ rfl rfl (fun w hw => load_se (N := un) ((zca hw.bx 11).trans rfl) ((zca hw.bx 12).trans rfl) ((zca hw.bx 13).trans rfl) ((zca hw.bx 14).trans rfl))
            · exact zbo rfl ⟨_, rfl, by kernel_rfl⟩ _ _ _ _ _ _ _ rfl rfl rfl (fun w hw => by rw [← c4]; exact eql4 _ _ 0 un s0lt hun w)
            · exact step_pick rfl trivial _ _ _ true rfl (by kernel_rfl) (by kernel_rfl)
            · exact zas rfl trivial _ rfl (by kernel_rfl) (fun _ h => h)
          intro W hW
          simp only [Exit.then, finL, List.getD_cons_zero, List.getD_cons_succ, Nat.zero_add, Nat.reduceAdd, List.setIfInBounds_toArray, List.set_cons_zero, List.set_cons_succ]
          go_wp2
          go_ret
          exact ⟨by rw [hy]; exact congrArg (fun z => Ending.returned (Value.bool z)) (Eq.symm (Bool.eq_false_iff.2 (fun hE => by have hE2 := (eqEv_iff _ _).1 hE; simp [bareE] at hE2; simp at c4; omega))), hW.bl⟩
        | true =>
          refine wp_region ?_
          refine wpOps_pure0 (fun i__ => ([(.pointer (some ⟨w.heap.size + 1, 3, none⟩)), (.int .i64 ro), (.pointer (some ⟨w.heap.size, 3, none⟩)), (.int .i64 ro), (.bool true), (.bool true), (.pointer (some ⟨w.heap.size + 1, 4, none⟩)), (.int .i64 0), (.pointer (some ⟨w.heap.size, 4, none⟩)), (.int .i64 ta), (.bool true), (.bool true), (.bool true), (.pointer (some ⟨w.heap.size + 1, 5, none⟩)), (.int .i64 0), (.pointer (some ⟨w.heap.size, 5, none⟩)), (.int .i64 of), (.bool true), (.bool true), (.bool true), (.pointer (some ⟨w.heap.size + 1, 6, none⟩)), (.int .i64 0), (.pointer (some ⟨w.heap.size, 6, none⟩)), (.int .i64 du), (.bool true), (.bool true), (.bool true), (.pointer (some ⟨w.heap.size + 1, 7, none⟩)), (sv 0), (.pointer (some ⟨w.heap.size, 7, none⟩)), (sv he), (.bool true), (.bool true), (.bool true), (.pointer (some ⟨w.heap.size + 1, 11, none⟩)), (sv 0), (.pointer (some ⟨w.heap.size, 11, none⟩)), (sv un), (.bool true), (.bool true), (.bool true)] : List Value).getD i__ undef) (fun V => JX w (w.heap.size) (w.heap.size + 1) (w.heap.size) ⟨2, nd, li, ro, ta, of, du, he, un⟩ ⟨2, nd, li, ro, 0, 0, 0, 0, 0⟩ V) (by kernel_rfl) hJ3 ?_ ?_
          · refine (sqc ?_ (sqc ?_ (sqc ?_ (sqc ?_ (sqc ?_ (sqc ?_ (sqc ?_ (sqc ?_ (sqc ?_ (sqc ?_ (sqc ?_ (sqc ?_ (sqc ?_ (sqc ?_ (sqc ?_ (sqc ?_ (sqc ?_ (sqc ?_ (sqc ?_ (sqc ?_ (sqc ?_ (sqc ?_ (sqc ?_ (sqc ?_ (sqc ?_ (sqc ?_ (sqc ?_ (sqc ?_ (sqc ?_ (sqc ?_ (sqc ?_ (sqc ?_ (sqc ?_ (sqc ?_ (sqc ?_ (sqc ?_ (sqc ?_ (sqc ?_ (sqc ?_ (sqc ?_ (sqc ?_ trivial)))))))))))))))))))))))))))))))))))))))))
            · exact zfa rfl trivial _ _ _ _ rfl rfl (fun w hw => faE3 w _ _)
            · exact zld rfl trivial _ _ _ rfl rfl (fun w hw => load_in ((zca hw.tg 3).trans rfl))
            · exact zfa rfl trivial _ _ _ _ rfl rfl (fun w hw => faE3 w _ _)
            · exact zld rfl trivial _ _ _ rfl rfl (fun w hw => load_in ((zca hw.bx 3).trans rfl))
            · exact zbo rfl trivial _ _ _ _ _ _ _ rfl rfl rfl (fun w hw => (bin_eql .i64 ro ro).trans (congrArg (fun z => Result.ok (Value.bool z) w) (by simp)))
            · exact zmv rfl trivial _ rfl (by kernel_rfl)
            · exact zfa rfl ⟨_, rfl, by kernel_rfl⟩ _ _ _ _ rfl rfl (fun w hw => faE4 w _ _)
            · exact zld rfl ⟨_, rfl, by kernel_rfl⟩ _ _ _ rfl rfl (fun w hw => load_in ((zca hw.tg 4).trans rfl))
            · exact zfa rfl ⟨_, rfl, by kernel_rfl⟩ _ _ _ _ rfl rfl (fun w hw => faE4 w _ _)
            · exact zld rfl ⟨_, rfl, by kernel_rfl⟩ _ _ _ rfl rfl (fun w hw => load_in ((zca hw.bx 4).trans rfl))
            · exact zbo rfl ⟨_, rfl, by kernel_rfl⟩ _ _ _ _ _ _ _ rfl rfl rfl (fun w hw => by rw [← c0]; exact bin_eql _ _ _)
            · exact step_pick rfl trivial _ _ _ true rfl (by kernel_rfl) (by kernel_rfl)
            · exact zmv rfl trivial _ rfl (by kernel_rfl)
            · exact zfa rfl ⟨_, rfl, by kernel_rfl⟩ _ _ _ _ rfl rfl (fun w hw => faE5 w _ _)
            · exact zld rfl ⟨_, rfl, by kernel_rfl⟩ _ _ _ rfl rfl (fun w hw => load_in ((zca hw.tg 5).trans rfl))
            · exact zfa rfl ⟨_, rfl, by kernel_rfl⟩ _ _ _ _ rfl rfl (fun w hw => faE5 w _ _)
            · exact zld rfl ⟨_, rfl, by kernel_rfl⟩ _ _ _ rfl rfl (fun w hw => load_in ((zca hw.bx 5).trans rfl))
            · exact zbo rfl ⟨_, rfl, by kernel_rfl⟩ _ _ _ _ _ _ _ rfl rfl rfl (fun w hw => by rw [← c1]; exact bin_eql _ _ _)
            · exact step_pick rfl trivial _ _ _ true rfl (by kernel_rfl) (by kernel_rfl)
            · exact zmv rfl trivial _ rfl (by kernel_rfl)
            · exact zfa rfl ⟨_, rfl, by kernel_rfl⟩ _ _ _ _ rfl rfl (fun w hw => faE6 w _ _)
            · exact zld rfl ⟨_, rfl, by kernel_rfl⟩ _ _ _ rfl rfl (fun w hw => load_in ((zca hw.tg 6).trans rfl))
            · exact zfa rfl ⟨_, rfl, by kernel_rfl⟩ _ _ _ _ rfl rfl (fun w hw => faE6 w _ _)
            · exact zld rfl ⟨_, rfl, by kernel_rfl⟩ _ _ _ rfl rfl (fun w hw => load_in ((zca hw.bx 6).trans rfl))
            · exact zbo rfl ⟨_, rfl, by kernel_rfl⟩ _ _ _ _ _ _ _ rfl rfl rfl (fun w hw => by rw [← c2]; exact bin_eql _ _ _)
            · exact step_pick rfl trivial _ _ _ true rfl (by kernel_rfl) (by kernel_rfl)
            · exact zmv rfl trivial _ rfl (by kernel_rfl)
            · exact zfa rfl ⟨_, rfl, by kernel_rfl⟩ _ _ _ _ rfl rfl (fun w hw => faE7 w _ _)
            · exact zld rfl ⟨_, rfl, by kernel_rfl⟩ _ _ _ rfl rfl (fun w hw => load_se (N := 0) ((zca hw.tg 7).trans rfl) ((zca hw.tg 8).trans rfl) ((zca hw.tg 9).trans rfl) ((zca hw.tg 10).trans rfl))
            · exact zfa rfl ⟨_, rfl, by kernel_rfl⟩ _ _ _ _ rfl rfl (fun w hw => faE7 w _ _)
            · exact zld rfl ⟨_, rfl, by kernel_rfl⟩ _ _ _ rfl rfl (fun w hw => load_se (N := he) ((zca hw.bx 7).trans rfl) ((zca hw.bx 8).trans rfl) ((zca hw.bx 9).trans rfl) ((zca hw.bx 10).trans rfl))
            · exact zbo rfl ⟨_, rfl, by kernel_rfl⟩ _ _ _ _ _ _ _ rfl rfl rfl (fun w hw => by rw [← c3]; exact eql4 _ _ 0 he s0lt hhe w)
            · exact step_pick rfl trivial _ _ _ true rfl (by kernel_rfl) (by kernel_rfl)
            · exact zmv rfl trivial _ rfl (by kernel_rfl)
            · exact zfa rfl ⟨_, rfl, by kernel_rfl⟩ _ _ _ _ rfl rfl (fun w hw => faE8 w _ _)
            · exact zld rfl ⟨_, rfl, by kernel_rfl⟩ _ _ _ rfl rfl (fun w hw => load_se (N := 0) ((zca hw.tg 11).trans rfl) ((zca hw.tg 12).trans rfl) ((zca hw.tg 13).trans rfl) ((zca hw.tg 14).trans rfl))
            · exact zfa rfl ⟨_, rfl, by kernel_rfl⟩ _ _ _ _ rfl rfl (fun w hw => faE8 w _ _)
            · exact zld rfl ⟨_, rfl, by kernel_rfl⟩ _ _ _ rfl rfl (fun w hw => load_se (N := un) ((zca hw.bx 11).trans rfl) ((zca hw.bx 12).trans rfl) ((zca hw.bx 13).trans rfl) ((zca hw.bx 14).trans rfl))
            · exact zbo rfl ⟨_, rfl, by kernel_rfl⟩ _ _ _ _ _ _ _ rfl rfl rfl (fun w hw => by rw [← c4]; exact eql4 _ _ 0 un s0lt hun w)
            · exact step_pick rfl trivial _ _ _ true rfl (by kernel_rfl) (by kernel_rfl)
            · exact zas rfl trivial _ rfl (by kernel_rfl) (fun _ h => h)
          intro W hW
          simp only [Exit.then, finL, List.getD_cons_zero, List.getD_cons_succ, Nat.zero_add, Nat.reduceAdd, List.setIfInBounds_toArray, List.set_cons_zero, List.set_cons_succ]
          go_wp2
          go_ret
          exact ⟨by rw [hy]; exact congrArg (fun z => Ending.returned (Value.bool z)) (Eq.symm ((eqEv_iff _ _).2 (by simp at c0 c1 c2 c3 c4; simp [bareE]; omega))), hW.bl⟩
theorem rbare_3 (nd li ro ta of du : Int) (he un : Nat) (hhe : he < S128) (hun : un < S128) (w : World) : Calls Try.prog 17 #[evV ⟨3, nd, li, ro, ta, of, du, he, un⟩] w fun e w' => e = .returned (.bool (eqEv ⟨3, nd, li, ro, ta, of, du, he, un⟩ (bareE ⟨3, nd, li, ro, ta, of, du, he, un⟩))) ∧ Below w.heap.size w w' := by
 have hmx : Try.prog.follows .mixedOrders = true := by kernel_rfl
 have hJ0 : JX w (w.heap.size) (w.heap.size + 1) (w.heap.size) ⟨3, nd, li, ro, ta, of, du, he, un⟩ ⟨3, nd, li, 0, 0, 0, 0, 0, 0⟩ ((w.alloc (.cells (ecA ⟨3, nd, li, ro, ta, of, du, he, un⟩) 34)).alloc (.cells (ecA ⟨3, nd, li, 0, 0, 0, 0, 0, 0⟩) 34)) := ⟨zoa (zna rfl), zna (by simp), .inl rfl, ((Below.refl _ w).alloc (Nat.le_refl _) _).alloc (by simp) _, by omega, by omega, by omega⟩
 simp only [ecA, wdz] at hJ0
 obtain ⟨y, hy⟩ : ∃ y, y = Value.bool (eqEv ⟨3, nd, li, ro, ta, of, du, he, un⟩ (bareE ⟨3, nd, li, ro, ta, of, du, he, un⟩)) := ⟨_, rfl⟩
 rw [← hy]
 unfold evV ecA
 go_enter Try.func17, Try.ntmps17
 go_wp2
 refine wp_region_any hmx ?_
 refine zwt (G := Unit) (fun g i__ => ([(.pointer (some ⟨w.heap.size, 3, none⟩)), (.int .i64 ro), (.pointer (some ⟨w.heap.size, 7, none⟩)), (sv he), (.pointer (some ⟨w.heap.size, 11, none⟩)), (sv un), (.pointer (some ⟨w.heap.size + 1, 3, none⟩)), undef, (.pointer (some ⟨w.heap.size + 1, 7, none⟩)), undef, (.pointer (some ⟨w.heap.size + 1, 11, none⟩)), undef] : List Value).getD i__ undef) (fun g d V => ∃ e2 : Ev, e2 = ⟨3, nd, li, if d 7 = true then ro else 0, 0, 0, 0, if d 9 = true then he else 0, if d 11 = true then un else 0⟩ ∧ JX w (w.heap.size) (w.heap.size + 1) (w.heap.size) ⟨3, nd, li, ro, ta, of, du, he, un⟩ e2 V) (by kernel_rfl) (()) ⟨⟨3, nd, li, 0, 0, 0, 0, 0, 0⟩, by simp, hJ0.carry (Below.refl _ _).drew⟩ ?step2 ?fin2
 case step2 =>
  intro i o ho
  have hi : i < 12 := getElem?_lt ho
  match i, hi, ho with
  | 0, _, ho => cases ho; exact zgo fun g d hdep => zfa rfl trivial _ _ _ _ rfl rfl (fun w hw => faE3 w _ _)
  | 1, _, ho => cases ho; exact zgo fun g d hdep => zld rfl trivial _ _ _ rfl rfl (fun w hw => by obtain ⟨e2, he2, hw⟩ := hw; exact load_in ((zca hw.bx 3).trans rfl))
  | 2, _, ho => cases ho; exact zgo fun g d hdep => zfa rfl trivial _ _ _ _ rfl rfl (fun w hw => faE7 w _ _)
  | 3, _, ho => cases ho; exact zgo fun g d hdep => zld rfl trivial _ _ _ rfl rfl (fun w hw => by obtain ⟨e2, he2, hw⟩ := hw; exact load_se (N := he) ((zca hw.bx 7).trans rfl) ((zca hw.bx 8).trans rfl) ((zca hw.bx 9).trans rfl) ((zca hw.bx 10).trans rfl))
  | 4, _, ho => cases ho; exact zgo fun g d hdep => zfa rfl trivial _ _ _ _ rfl rfl (fun w hw => faE8 w _ _)
  | 5, _, ho => cases ho; exact zgo fun g d hdep => zld rfl trivial _ _ _ rfl rfl (fun w hw => by obtain ⟨e2, he2, hw⟩ := hw; exact load_se (N := un) ((zca hw.bx 11).trans rfl) ((zca hw.bx 12).trans rfl) ((zca hw.bx 13).trans rfl) ((zca hw.bx 14).trans rfl))
  | 6, _, ho => cases ho; exact zgo fun g d hdep => zfa rfl trivial _ _ _ _ rfl rfl (fun w hw => faE3 w _ _)
  | 7, _, ho => cases ho; exact stepG_store rfl rfl rfl _ _ _ (fun g => .pointer (some ⟨w.heap.size + 1, 3, none⟩)) (fun g => .int .i64 ro) rfl (fun g => by kernel_rfl) (fun g => by kernel_rfl) (fun g d V hJ hun hdep => by obtain ⟨e2, he2, hJ'⟩ := hJ; refine ⟨_, st_in (z := e2.ro) ((zca hJ'.tg 3).trans rfl) (zta hJ'.tg 3), { e2 with ro := ro }, ?_, hJ'.put 3 _ _ rfl⟩; rw [he2]; simp)
  | 8, _, ho => cases ho; exact zgo fun g d hdep => zfa rfl trivial _ _ _ _ rfl rfl (fun w hw => faE7 w _ _)
  | 9, _, ho => cases ho; exact stepG_store rfl rfl rfl _ _ _ (fun g => .pointer (some ⟨w.heap.size + 1, 7, none⟩)) (fun g => sv he) rfl (fun g => by kernel_rfl) (fun g => by kernel_rfl) (fun g d V hJ hun hdep => by obtain ⟨e2, he2, hJ'⟩ := hJ; refine ⟨_, run_store_in V (w.heap.size + 1) 7 34 32 (ecA e2).toList (svL he) hJ'.tg info_st (Nat.le_of_ble_eq_true rfl) (svL_one _), { e2 with he := he }, ?_, hJ'.puts 7 _ _ rfl⟩; rw [he2]; simp)
  | 10, _, ho => cases ho; exact zgo fun g d hdep => zfa rfl trivial _ _ _ _ rfl rfl (fun w hw => faE8 w _ _)
  | 11, _, ho => cases ho; exact stepG_store rfl rfl rfl _ _ _ (fun g => .pointer (some ⟨w.heap.size + 1, 11, none⟩)) (fun g => sv un) rfl (fun g => by kernel_rfl) (fun g => by kernel_rfl) (fun g d V hJ hun hdep => by obtain ⟨e2, he2, hJ'⟩ := hJ; refine ⟨_, run_store_in V (w.heap.size + 1) 11 34 32 (ecA e2).toList (svL un) hJ'.tg info_st (Nat.le_of_ble_eq_true rfl) (svL_one _), { e2 with un := un }, ?_, hJ'.puts 11 _ _ rfl⟩; rw [he2]; simp)
 intro g d W hall hW
 first | refine hK _ _ ?_ | refine (‹∀ (a : Act) (w : World), Code.wp Try.prog _ _ a w → _›) _ _ ?_ | skip
 simp only [finL, List.getD_cons_zero, List.getD_cons_succ, Nat.zero_add, Nat.reduceAdd, List.setIfInBounds_toArray, List.set_cons_zero, List.set_cons_succ]
 rw [hall 7 (by decide), hall 9 (by decide), hall 11 (by decide)] at hW
 obtain ⟨e2, he2, hJ2⟩ := hW
 simp only [if_true] at he2
 have HE : Hid (e2 = _) := he2
 clear hall hJ0 he2
 have hJ3 := hJ2
 rw [HE.out] at hJ3
 clear hJ2
 go_upto_region 13 with fail
 cases c0 : (0 == ta) with
 | false =>
  refine wp_region ?_
  refine wpOps_pure0 (fun i__ => ([(.pointer (some ⟨w.heap.size + 1, 3, none⟩)), (.int .i64 ro), (.pointer (some ⟨w.heap.size, 3, none⟩)), (.int .i64 ro), (.bool true), (.bool true), (.pointer (some ⟨w.heap.size + 1, 4, none⟩)), (.int .i64 0), (.pointer (some ⟨w.heap.size, 4, none⟩)), (.int .i64 ta), (.bool false), (.bool false), (.bool false), undef, undef, undef, undef, undef, (.bool false), (.bool false), undef, undef, undef, undef, undef, (.bool false), (.bool false), undef, undef, undef, undef, undef, (.bool false), (.bool false), undef, undef, undef, undef, undef, (.bool false), (.bool false)] : List Value).getD i__ undef) (fun V => JX w (w.heap.size) (w.heap.size + 1) (w.heap.size) ⟨3, nd, li, ro, ta, of, du, he, un⟩ ⟨3, nd, li, ro, 0, 0, 0, he, un⟩ V) (by kernel_rfl) hJ3 ?_ ?_
  · refine (sqc ?_ (sqc ?_ (sqc ?_ (sqc ?_ (sqc ?_ (sqc ?_ (sqc ?_ (sqc ?_ (sqc ?_ (sqc ?_ (sqc ?_ (sqc ?_ (sqc ?_ (sqc ?_ (sqc ?_ (sqc ?_ (sqc ?_ (sqc ?_ (sqc ?_ (sqc ?_ (sqc ?_ (sqc ?_ (sqc ?_ (sqc ?_ (sqc ?_ (sqc ?_ (sqc ?_ (sqc ?_ (sqc ?_ (sqc ?_ (sqc ?_ (sqc ?_ (sqc ?_ (sqc ?_ (sqc ?_ (sqc ?_ (sqc ?_ (sqc ?_ (sqc ?_ (sqc ?_ (sqc ?_ trivial)))))))))))))))))))))))))))))))))))))))))
    · exact zfa rfl trivial _ _ _ _ rfl rfl (fun w hw => faE3 w _ _)
    · exact zld rfl trivial _ _ _ rfl rfl (fun w hw => load_in ((zca hw.tg 3).trans rfl))
    · exact zfa rfl trivial _ _ _ _ rfl rfl (fun w hw => faE3 w _ _)
    · exact zld rfl trivial _ _ _ rfl rfl (fun w hw => load_in ((zca hw.bx 3).trans rfl))
    · exact zbo rfl trivial _ _ _ _ _ _ _ rfl rfl rfl (fun w hw => (bin_eql .i64 ro ro).trans (congrArg (fun z => Result.ok (Value.bool z) w) (by simp)))
    · exact zmv rfl trivial _ rfl (by kernel_rfl)
    · exact zfa rfl ⟨_, rfl, by kernel_rfl⟩ _ _ _ _ rfl rfl (fun w hw => faE4 w _ _)
    · exact zld rfl ⟨_, rfl, by kernel_rfl⟩ _ _ _ rfl rfl (fun w hw => load_in ((zca hw.tg 4).trans rfl))
    · exact zfa rfl ⟨_, rfl, by kernel_rfl⟩ _ _ _ _ rfl rfl (fun w hw => faE4 w _ _)
    · exact zld rfl ⟨_, rfl, by kernel_rfl⟩ _ _ _ rfl rfl (fun w hw => load_in ((zca hw.bx 4).trans rfl))
    · exact zbo rfl ⟨_, rfl, by kernel_rfl⟩ _ _ _ _ _ _ _ rfl rfl rfl (fun w hw => by rw [← c0]; exact bin_eql _ _ _)
    · exact step_pick rfl trivial _ _ _ true rfl (by kernel_rfl) (by kernel_rfl)
    · exact zmv rfl trivial _ rfl (by kernel_rfl)
    · exact zsk rfl 12 true 68 (.bool false) rfl rfl (by kernel_rfl) (by intro h; cases h) rfl
    · exact zsk rfl 12 true 68 (.bool false) rfl rfl (by kernel_rfl) (by intro h; cases h) rfl
    · exact zsk rfl 12 true 68 (.bool false) rfl rfl (by kernel_rfl) (by intro h; cases h) rfl
    · exact zsk rfl 12 true 68 (.bool false) rfl rfl (by kernel_rfl) (by intro h; cases h) rfl
    · exact zsk rfl 12 true 68 (.bool false) rfl rfl (by kernel_rfl) (by intro h; cases h) rfl
    · exact step_pick rfl trivial _ _ _ false rfl (by kernel_rfl) (by kernel_rfl)
    · exact zmv rfl trivial _ rfl (by kernel_rfl)
    · exact zsk rfl 19 true 75 (.bool false) rfl rfl (by kernel_rfl) (by intro h; cases h) rfl
    · exact zsk rfl 19 true 75 (.bool false) rfl rfl (by kernel_rfl) (by intro h; cases h) rfl
    · exact zsk rfl 19 true 75 (.bool false) rfl rfl (by kernel_rfl) (by intro h; cases h) rfl
    · exact zsk rfl 19 true 75 (.bool false) rfl rfl (by kernel_rfl) (by intro h; cases h) rfl
    · exact zsk rfl 19 true 75 (.bool false) rfl rfl (by kernel_rfl) (by intro h; cases h) rfl
    · exact step_pick rfl trivial _ _ _ false rfl (by kernel_rfl) (by kernel_rfl)
    · exact zmv rfl trivial _ rfl (by kernel_rfl)
    · exact zsk rfl 26 true 82 (.bool false) rfl rfl (by kernel_rfl) (by intro h; cases h) rfl
    · exact zsk rfl 26 true 82 (.bool false) rfl rfl (by kernel_rfl) (by intro h; cases h) rfl
    · exact zsk rfl 26 true 82 (.bool false) rfl rfl (by kernel_rfl) (by intro h; cases h) rfl
    · exact zsk rfl 26 true 82 (.bool false) rfl rfl (by kernel_rfl) (by intro h; cases h) rfl
    · exact zsk rfl 26 true 82 (.bool false) rfl rfl (by kernel_rfl) (by intro h; cases h) rfl
    · exact step_pick rfl trivial _ _ _ false rfl (by kernel_rfl) (by kernel_rfl)
    · exact zmv rfl trivial _ rfl (by kernel_rfl)
    · exact zsk rfl 33 true 89 (.bool false) rfl rfl (by kernel_rfl) (by intro h; cases h) rfl
    · exact zsk rfl 33 true 89 (.bool false) rfl rfl (by kernel_rfl) (by intro h; cases h) rfl
    · exact zsk rfl 33 true 89 (.bool false) rfl rfl (by kernel_rfl) (by intro h; cases h) rfl
    · exact zsk rfl 33 true 89 (.bool false) rfl rfl (by kernel_rfl) (by intro h; cases h) rfl
    · exact zsk rfl 33 true 89 (.bool false) rfl rfl (by kernel_rfl) (by intro h; cases h) rfl
    · exact step_pick rfl trivial _ _ _ false rfl (by kernel_rfl) (by kernel_rfl)
    · exact zas rfl trivial _ rfl (by kernel_rfl) (fun _ h => h)
  intro W hW
  simp only [Exit.then, finL, List.getD_cons_zero, List.getD_cons_succ, Nat.zero_add, Nat.reduceAdd, List.setIfInBounds_toArray, List.set_cons_zero, List.set_cons_succ]
  go_wp2
  go_ret
  exact ⟨by rw [hy]; exact congrArg (fun z => Ending.returned (Value.bool z)) (Eq.symm (Bool.eq_false_iff.2 (fun hE => by have hE2 := (eqEv_iff _ _).1 hE; simp [bareE] at hE2; simp at c0; omega))), hW.bl⟩
 | true =>
  cases c1 : (0 == of) with
  | false =>
    refine wp_region ?_
    refine wpOps_pure0 (fun i__ => ([(.pointer (some ⟨w.heap.size + 1, 3, none⟩)), (.int .i64 ro), (.pointer (some ⟨w.heap.size, 3, none⟩)), (.int .i64 ro), (.bool true), (.bool true), (.pointer (some ⟨w.heap.size + 1, 4, none⟩)), (.int .i64 0), (.pointer (some ⟨w.heap.size, 4, none⟩)), (.int .i64 ta), (.bool true), (.bool true), (.bool true), (.pointer (some ⟨w.heap.size + 1, 5, none⟩)), (.int .i64 0), (.pointer (some ⟨w.heap.size, 5, none⟩)), (.int .i64 of), (.bool false), (.bool false), (.bool false), undef, undef, undef, undef, undef, (.bool false), (.bool false), undef, undef, undef, undef, undef, (.bool false), (.bool false), undef, undef, undef, undef, undef, (.bool false), (.bool false)] : List Value).getD i__ undef) (fun V => JX w (w.heap.size) (w.heap.size + 1) (w.heap.size) ⟨3, nd, li, ro, ta, of, du, he, un⟩ ⟨3, nd, li, ro, 0, 0, 0, he, un⟩ V) (by kernel_rfl) hJ3 ?_ ?_
    · refine (sqc ?_ (sqc ?_ (sqc ?_ (sqc ?_ (sqc ?_ (sqc ?_ (sqc ?_ (sqc ?_ (sqc ?_ (sqc ?_ (sqc ?_ (sqc ?_ (sqc ?_ (sqc ?_ (sqc ?_ (sqc ?_ (sqc ?_ (sqc ?_ (sqc ?_ (sqc ?_ (sqc ?_ (sqc ?_ (sqc ?_ (sqc ?_ (sqc ?_ (sqc ?_ (sqc ?_ (sqc ?_ (sqc ?_ (sqc ?_ (sqc ?_ (sqc ?_ (sqc ?_ (sqc ?_ (sqc ?_ (sqc ?_ (sqc ?_ (sqc ?_ (sqc ?_ (sqc ?_ (sqc ?_ trivial)))))))))))))))))))))))))))))))))))))))))
      · exact zfa rfl trivial _ _ _ _ rfl rfl (fun w hw => faE3 w _ _)
      · exact zld rfl trivial _ _ _ rfl rfl (fun w hw => load_in ((zca hw.tg 3).trans rfl))
      · exact zfa rfl trivial _ _ _ _ rfl rfl (fun w hw => faE3 w _ _)
      · exact zld rfl trivial _ _ _ rfl rfl (fun w hw => load_in ((zca hw.bx 3).trans rfl))
      · exact zbo rfl trivial _ _ _ _ _ _ _ rfl rfl rfl (fun w hw => (bin_eql .i64 ro ro).trans (congrArg (fun z => Result.ok (Value.bool z) w) (by simp)))
      · exact zmv rfl trivial _ rfl (by kernel_rfl)
      · exact zfa rfl ⟨_, rfl, by kernel_rfl⟩ _ _ _ _ rfl rfl (fun w hw => faE4 w _ _)
      · exact zld rfl ⟨_, rfl, by kernel_rfl⟩ _ _ _ rfl rfl (fun w hw => load_in ((zca hw.tg 4).trans rfl))
      · exact zfa rfl ⟨_, rfl, by kernel_rfl⟩ _ _ _ _ rfl rfl (fun w hw => faE4 w _ _)
      · exact zld rfl ⟨_, rfl, by kernel_rfl⟩ _ _ _ rfl rfl (fun w hw => load_in ((zca hw.bx 4).trans rfl))
      · exact zbo rfl ⟨_, rfl, by kernel_rfl⟩ _ _ _ _ _ _ _ rfl rfl rfl (fun w hw => by rw [← c0]; exact bin_eql _ _ _)
      · exact step_pick rfl trivial _ _ _ true rfl (by kernel_rfl) (by kernel_rfl)
      · exact zmv rfl trivial _ rfl (by kernel_rfl)
      · exact zfa rfl ⟨_, rfl, by kernel_rfl⟩ _ _ _ _ rfl rfl (fun w hw => faE5 w _ _)
      · exact zld rfl ⟨_, rfl, by kernel_rfl⟩ _ _ _ rfl rfl (fun w hw => load_in ((zca hw.tg 5).trans rfl))
      · exact zfa rfl ⟨_, rfl, by kernel_rfl⟩ _ _ _ _ rfl rfl (fun w hw => faE5 w _ _)
      · exact zld rfl ⟨_, rfl, by kernel_rfl⟩ _ _ _ rfl rfl (fun w hw => load_in ((zca hw.bx 5).trans rfl))
      · exact zbo rfl ⟨_, rfl, by kernel_rfl⟩ _ _ _ _ _ _ _ rfl rfl rfl (fun w hw => by rw [← c1]; exact bin_eql _ _ _)
      · exact step_pick rfl trivial _ _ _ true rfl (by kernel_rfl) (by kernel_rfl)
      · exact zmv rfl trivial _ rfl (by kernel_rfl)
      · exact zsk rfl 19 true 75 (.bool false) rfl rfl (by kernel_rfl) (by intro h; cases h) rfl
      · exact zsk rfl 19 true 75 (.bool false) rfl rfl (by kernel_rfl) (by intro h; cases h) rfl
      · exact zsk rfl 19 true 75 (.bool false) rfl rfl (by kernel_rfl) (by intro h; cases h) rfl
      · exact zsk rfl 19 true 75 (.bool false) rfl rfl (by kernel_rfl) (by intro h; cases h) rfl
      · exact zsk rfl 19 true 75 (.bool false) rfl rfl (by kernel_rfl) (by intro h; cases h) rfl
      · exact step_pick rfl trivial _ _ _ false rfl (by kernel_rfl) (by kernel_rfl)
      · exact zmv rfl trivial _ rfl (by kernel_rfl)
      · exact zsk rfl 26 true 82 (.bool false) rfl rfl (by kernel_rfl) (by intro h; cases h) rfl
      · exact zsk rfl 26 true 82 (.bool false) rfl rfl (by kernel_rfl) (by intro h; cases h) rfl
      · exact zsk rfl 26 true 82 (.bool false) rfl rfl (by kernel_rfl) (by intro h; cases h) rfl
      · exact zsk rfl 26 true 82 (.bool false) rfl rfl (by kernel_rfl) (by intro h; cases h) rfl
      · exact zsk rfl 26 true 82 (.bool false) rfl rfl (by kernel_rfl) (by intro h; cases h) rfl
      · exact step_pick rfl trivial _ _ _ false rfl (by kernel_rfl) (by kernel_rfl)
      · exact zmv rfl trivial _ rfl (by kernel_rfl)
      · exact zsk rfl 33 true 89 (.bool false) rfl rfl (by kernel_rfl) (by intro h; cases h) rfl
      · exact zsk rfl 33 true 89 (.bool false) rfl rfl (by kernel_rfl) (by intro h; cases h) rfl
      · exact zsk rfl 33 true 89 (.bool false) rfl rfl (by kernel_rfl) (by intro h; cases h) rfl
      · exact zsk rfl 33 true 89 (.bool false) rfl rfl (by kernel_rfl) (by intro h; cases h) rfl
      · exact zsk rfl 33 true 89 (.bool false) rfl rfl (by kernel_rfl) (by intro h; cases h) rfl
      · exact step_pick rfl trivial _ _ _ false rfl (by kernel_rfl) (by kernel_rfl)
      · exact zas rfl trivial _ rfl (by kernel_rfl) (fun _ h => h)
    intro W hW
    simp only [Exit.then, finL, List.getD_cons_zero, List.getD_cons_succ, Nat.zero_add, Nat.reduceAdd, List.setIfInBounds_toArray, List.set_cons_zero, List.set_cons_succ]
    go_wp2
    go_ret
    exact ⟨by rw [hy]; exact congrArg (fun z => Ending.returned (Value.bool z)) (Eq.symm (Bool.eq_false_iff.2 (fun hE => by have hE2 := (eqEv_iff _ _).1 hE; simp [bareE] at hE2; simp at c1; omega))), hW.bl⟩
  | true =>
    cases c2 : (0 == du) with
    | false =>
      refine wp_region ?_
      refine wpOps_pure0 (fun i__ => ([(.pointer (some ⟨w.heap.size + 1, 3, none⟩)), (.int .i64 ro), (.pointer (some ⟨w.heap.size, 3, none⟩)), (.int .i64 ro), (.bool true), (.bool true), (.pointer (some ⟨w.heap.size + 1, 4, none⟩)), (.int .i64 0), (.pointer (some ⟨w.heap.size, 4, none⟩)), (.int .i64 ta), (.bool true), (.bool true), (.bool true), (.pointer (some ⟨w.heap.size + 1, 5, none⟩)), (.int .i64 0), (.pointer (some ⟨w.heap.size, 5, none⟩)), (.int .i64 of), (.bool true), (.bool true), (.bool true), (.pointer (some ⟨w.heap.size + 1, 6, none⟩)), (.int .i64 0), (.pointer (some ⟨w.heap.size, 6, none⟩)), (.int .i64 du), (.bool false), (.bool false), (.bool false), undef, undef, undef, undef, undef, (.bool false), (.bool false), undef, undef, undef, undef, undef, (.bool false), (.bool false)] : List Value).getD i__ undef) (fun V => JX w (w.heap.size) (w.heap.size + 1) (w.heap.size) ⟨3, nd, li, ro, ta, of, du, he, un⟩ ⟨3, nd, li, ro, 0, 0, 0, he, un⟩ V) (by kernel_rfl) hJ3 ?_ ?_
      · refine (sqc ?_ (sqc ?_ (sqc ?_ (sqc ?_ (sqc ?_ (sqc ?_ (sqc ?_ (sqc ?_ (sqc ?_ (sqc ?_ (sqc ?_ (sqc ?_ (sqc ?_ (sqc ?_ (sqc ?_ (sqc ?_ (sqc ?_ (sqc ?_ (sqc ?_ (sqc ?_ (sqc ?_ (sqc ?_ (sqc ?_ (sqc ?_ (sqc ?_ (sqc ?_ (sqc ?_ (sqc ?_ (sqc ?_ (sqc ?_ (sqc ?_ (sqc ?_ (sqc ?_ (sqc ?_ (sqc ?_ (sqc ?_ (sqc ?_ (sqc ?_ (sqc ?_ (sqc ?_ (sqc ?_ trivial)))))))))))))))))))))))))))))))))))))))))
        · exact zfa rfl trivial _ _ _ _ rfl rfl (fun w hw => faE3 w _ _)
        · exact zld rfl trivial _ _ _ rfl rfl (fun w hw => load_in ((zca hw.tg 3).trans rfl))
        · exact zfa rfl trivial _ _ _ _ rfl rfl (fun w hw => faE3 w _ _)
        · exact zld rfl trivial _ _ _ rfl rfl (fun w hw => load_in ((zca hw.bx 3).trans rfl))
        · exact zbo rfl trivial _ _ _ _ _ _ _ rfl rfl rfl (fun w hw => (bin_eql .i64 ro ro).trans (congrArg (fun z => Result.ok (Value.bool z) w) (by simp)))
        · exact zmv rfl trivial _ rfl (by kernel_rfl)
        · exact zfa rfl ⟨_, rfl, by kernel_rfl⟩ _ _ _ _ rfl rfl (fun w hw => faE4 w _ _)
        · exact zld rfl ⟨_, rfl, by kernel_rfl⟩ _ _ _ rfl rfl (fun w hw => load_in ((zca hw.tg 4).trans rfl))
        · exact zfa rfl ⟨_, rfl, by kernel_rfl⟩ _ _ _ _ rfl rfl (fun w hw => faE4 w _ _)
        · exact zld rfl ⟨_, rfl, by kernel_rfl⟩ _ _ _ rfl rfl (fun w hw => load_in ((zca hw.bx 4).trans rfl))
        · exact zbo rfl ⟨_, rfl, by kernel_rfl⟩ _ _ _ _ _ _ _ rfl rfl rfl (fun w hw => by rw [← c0]; exact bin_eql _ _ _)
        · exact step_pick rfl trivial _ _ _ true rfl (by kernel_rfl) (by kernel_rfl)
        · exact zmv rfl trivial _ rfl (by kernel_rfl)
        · exact zfa rfl ⟨_, rfl, by kernel_rfl⟩ _ _ _ _ rfl rfl (fun w hw => faE5 w _ _)
        · exact zld rfl ⟨_, rfl, by kernel_rfl⟩ _ _ _ rfl rfl (fun w hw => load_in ((zca hw.tg 5).trans rfl))
        · exact zfa rfl ⟨_, rfl, by kernel_rfl⟩ _ _ _ _ rfl rfl (fun w hw => faE5 w _ _)
        · exact zld rfl ⟨_, rfl, by kernel_rfl⟩ _ _ _ rfl rfl (fun w hw => load_in ((zca hw.bx 5).trans rfl))
        · exact zbo rfl ⟨_, rfl, by kernel_rfl⟩ _ _ _ _ _ _ _ rfl rfl rfl (fun w hw => by rw [← c1]; exact bin_eql _ _ _)
        · exact step_pick rfl trivial _ _ _ true rfl (by kernel_rfl) (by kernel_rfl)
        · exact zmv rfl trivial _ rfl (by kernel_rfl)
        · exact zfa rfl ⟨_, rfl, by kernel_rfl⟩ _ _ _ _ rfl rfl (fun w hw => faE6 w _ _)
        · exact zld rfl ⟨_, rfl, by kernel_rfl⟩ _ _ _ rfl rfl (fun w hw => load_in ((zca hw.tg 6).trans rfl))
        · exact zfa rfl ⟨_, rfl, by kernel_rfl⟩ _ _ _ _ rfl rfl (fun w hw => faE6 w _ _)
        · exact zld rfl ⟨_, rfl, by kernel_rfl⟩ _ _ _ rfl rfl (fun w hw => load_in ((zca hw.bx 6).trans rfl))
        · exact zbo rfl ⟨_, rfl, by kernel_rfl⟩ _ _ _ _ _ _ _ rfl rfl rfl (fun w hw => by rw [← c2]; exact bin_eql _ _ _)
        · exact step_pick rfl trivial _ _ _ true rfl (by kernel_rfl) (by kernel_rfl)
        · exact zmv rfl trivial _ rfl (by kernel_rfl)
        · exact zsk rfl 26 true 82 (.bool false) rfl rfl (by kernel_rfl) (by intro h; cases h) rfl
        · exact zsk rfl 26 true 82 (.bool false) rfl rfl (by kernel_rfl) (by intro h; cases h) rfl
        · exact zsk rfl 26 true 82 (.bool false) rfl rfl (by kernel_rfl) (by intro h; cases h) rfl
        · exact zsk rfl 26 true 82 (.bool false) rfl rfl (by kernel_rfl) (by intro h; cases h) rfl
        · exact zsk rfl 26 true 82 (.bool false) rfl rfl (by kernel_rfl) (by intro h; cases h) rfl
        · exact step_pick rfl trivial _ _ _ false rfl (by kernel_rfl) (by kernel_rfl)
        · exact zmv rfl trivial _ rfl (by kernel_rfl)
        · exact zsk rfl 33 true 89 (.bool false) rfl rfl (by kernel_rfl) (by intro h; cases h) rfl
        · exact zsk rfl 33 true 89 (.bool false) rfl rfl (by kernel_rfl) (by intro h; cases h) rfl
        · exact zsk rfl 33 true 89 (.bool false) rfl rfl (by kernel_rfl) (by intro h; cases h) rfl
        · exact zsk rfl 33 true 89 (.bool false) rfl rfl (by kernel_rfl) (by intro h; cases h) rfl
        · exact zsk rfl 33 true 89 (.bool false) rfl rfl (by kernel_rfl) (by intro h; cases h) rfl
        · exact step_pick rfl trivial _ _ _ false rfl (by kernel_rfl) (by kernel_rfl)
        · exact zas rfl trivial _ rfl (by kernel_rfl) (fun _ h => h)
      intro W hW
      simp only [Exit.then, finL, List.getD_cons_zero, List.getD_cons_succ, Nat.zero_add, Nat.reduceAdd, List.setIfInBounds_toArray, List.set_cons_zero, List.set_cons_succ]
      go_wp2
      go_ret
      exact ⟨by rw [hy]; exact congrArg (fun z => Ending.returned (Value.bool z)) (Eq.symm (Bool.eq_false_iff.2 (fun hE => by have hE2 := (eqEv_iff _ _).1 hE; simp [bareE] at hE2; simp at c2; omega))), hW.bl⟩
    | true =>
      refine wp_region ?_
      refine wpOps_pure0 (fun i__ => ([(.pointer (some ⟨w.heap.size + 1, 3, none⟩)), (.int .i64 ro), (.pointer (some ⟨w.heap.size, 3, none⟩)), (.int .i64 ro), (.bool true), (.bool true), (.pointer (some ⟨w.heap.size + 1, 4, none⟩)), (.int .i64 0), (.pointer (some ⟨w.heap.size, 4, none⟩)), (.int .i64 ta), (.bool true), (.bool true), (.bool true), (.pointer (some ⟨w.heap.size + 1, 5, none⟩)), (.int .i64 0), (.pointer (some ⟨w.heap.size, 5, none⟩)), (.int .i64 of), (.bool true), (.bool true), (.bool true), (.pointer (some ⟨w.heap.size + 1, 6, none⟩)), (.int .i64 0), (.pointer (some ⟨w.heap.size, 6, none⟩)), (.int .i64 du), (.bool true), (.bool true), (.bool true), (.pointer (some ⟨w.heap.size + 1, 7, none⟩)), (sv he), (.pointer (some ⟨w.heap.size, 7, none⟩)), (sv he), (.bool true), (.bool true), (.bool true), (.pointer (some ⟨w.heap.size + 1, 11, none⟩)), (sv un), (.pointer (some ⟨w.heap.size, 11, none⟩)), (sv un), (.bool true), (.bool true), (.bool true)] : List Value).getD i__ undef) (fun V => JX w (w.heap.size) (w.heap.size + 1) (w.heap.size) ⟨3, nd, li, ro, ta, of, du, he, un⟩ ⟨3, nd, li, ro, 0, 0, 0, he, un⟩ V) (by kernel_rfl) hJ3 ?_ ?_
      · refine (sqc ?_ (sqc ?_ (sqc ?_ (sqc ?_ (sqc ?_ (sqc ?_ (sqc ?_ (sqc ?_ (sqc ?_ (sqc ?_ (sqc ?_ (sqc ?_ (sqc ?_ (sqc ?_ (sqc ?_ (sqc ?_ (sqc ?_ (sqc ?_ (sqc ?_ (sqc ?_ (sqc ?_ (sqc ?_ (sqc ?_ (sqc ?_ (sqc ?_ (sqc ?_ (sqc ?_ (sqc ?_ (sqc ?_ (sqc ?_ (sqc ?_ (sqc ?_ (sqc ?_ (sqc ?_ (sqc ?_ (sqc ?_ (sqc ?_ (sqc ?_ (sqc ?_ (sqc ?_ (sqc ?_ trivial)))))))))))))))))))))))))))))))))))))))))
        · exact zfa rfl trivial _ _ _ _ rfl rfl (fun w hw => faE3 w _ _)
        · exact zld rfl trivial _ _ _ rfl rfl (fun w hw => load_in ((zca hw.tg 3).trans rfl))
        · exact zfa rfl trivial _ _ _ _ rfl rfl (fun w hw => faE3 w _ _)
        · exact zld rfl trivial _ _ _ rfl rfl (fun w hw => load_in ((zca hw.bx 3).trans rfl))
        · exact zbo rfl trivial _ _ _ _ _ _ _ rfl rfl rfl (fun w hw => (bin_eql .i64 ro ro).trans (congrArg (fun z => Result.ok (Value.bool z) w) (by simp)))
        · exact zmv rfl trivial _ rfl (by kernel_rfl)
        · exact zfa rfl ⟨_, rfl, by kernel_rfl⟩ _ _ _ _ rfl rfl (fun w hw => faE4 w _ _)
        · exact zld rfl ⟨_, rfl, by kernel_rfl⟩ _ _ _ rfl rfl (fun w hw => load_in ((zca hw.tg 4).trans rfl))
        · exact zfa rfl ⟨_, rfl, by kernel_rfl⟩ _ _ _ _ rfl rfl (fun w hw => faE4 w _ _)
        · exact zld rfl ⟨_, rfl, by kernel_rfl⟩ _ _ _ rfl rfl (fun w hw => load_in ((zca hw.bx 4).trans rfl))
        · exact zbo rfl ⟨_, rfl, by kernel_rfl⟩ _ _ _ _ _ _ _ rfl rfl rfl (fun w hw => by rw [← c0]; exact bin_eql _ _ _)
        · exact step_pick rfl trivial _ _ _ true rfl (by kernel_rfl) (by kernel_rfl)
        · exact zmv rfl trivial _ rfl (by kernel_rfl)
        · exact zfa rfl ⟨_, rfl, by kernel_rfl⟩ _ _ _ _ rfl rfl (fun w hw => faE5 w _ _)
        · exact zld rfl ⟨_, rfl, by kernel_rfl⟩ _ _ _ rfl rfl (fun w hw => load_in ((zca hw.tg 5).trans rfl))
        · exact zfa rfl ⟨_, rfl, by kernel_rfl⟩ _ _ _ _ rfl rfl (fun w hw => faE5 w _ _)
        · exact zld rfl ⟨_, rfl, by kernel_rfl⟩ _ _ _ rfl rfl (fun w hw => load_in ((zca hw.bx 5).trans rfl))
        · exact zbo rfl ⟨_, rfl, by kernel_rfl⟩ _ _ _ _ _ _ _ rfl rfl rfl (fun w hw => by rw [← c1]; exact bin_eql _ _ _)
        · exact step_pick rfl trivial _ _ _ true rfl (by kernel_rfl) (by kernel_rfl)
        · exact zmv rfl trivial _ rfl (by kernel_rfl)
        · exact zfa rfl ⟨_, rfl, by kernel_rfl⟩ _ _ _ _ rfl rfl (fun w hw => faE6 w _ _)
        · exact zld rfl ⟨_, rfl, by kernel_rfl⟩ _ _ _ rfl rfl (fun w hw => load_in ((zca hw.tg 6).trans rfl))
        · exact zfa rfl ⟨_, rfl, by kernel_rfl⟩ _ _ _ _ rfl rfl (fun w hw => faE6 w _ _)
        · exact zld rfl ⟨_, rfl, by kernel_rfl⟩ _ _ _ rfl rfl (fun w hw => load_in ((zca hw.bx 6).trans rfl))
        · exact zbo rfl ⟨_, rfl, by kernel_rfl⟩ _ _ _ _ _ _ _ rfl rfl rfl (fun w hw => by rw [← c2]; exact bin_eql _ _ _)
        · exact step_pick rfl trivial _ _ _ true rfl (by kernel_rfl) (by kernel_rfl)
        · exact zmv rfl trivial _ rfl (by kernel_rfl)
        · exact zfa rfl ⟨_, rfl, by kernel_rfl⟩ _ _ _ _ rfl rfl (fun w hw => faE7 w _ _)
        · exact zld rfl ⟨_, rfl, by kernel_rfl⟩ _ _ _ rfl rfl (fun w hw => load_se (N := he) ((zca hw.tg 7).trans rfl) ((zca hw.tg 8).trans rfl) ((zca hw.tg 9).trans rfl) ((zca hw.tg 10).trans rfl))
        · exact zfa rfl ⟨_, rfl, by kernel_rfl⟩ _ _ _ _ rfl rfl (fun w hw => faE7 w _ _)
        · exact zld rfl ⟨_, rfl, by kernel_rfl⟩ _ _ _ rfl rfl (fun w hw => load_se (N := he) ((zca hw.bx 7).trans rfl) ((zca hw.bx 8).trans rfl) ((zca hw.bx 9).trans rfl) ((zca hw.bx 10).trans rfl))
        · exact zbo rfl ⟨_, rfl, by kernel_rfl⟩ _ _ _ _ _ _ _ rfl rfl rfl (fun w hw => (eql4 _ _ he he hhe hhe w).trans (congrArg (fun z => Result.ok (Value.bool z) w) (decide_eq_true rfl)))
        · exact step_pick rfl trivial _ _ _ true rfl (by kernel_rfl) (by kernel_rfl)
        · exact zmv rfl trivial _ rfl (by kernel_rfl)
        · exact zfa rfl ⟨_, rfl, by kernel_rfl⟩ _ _ _ _ rfl rfl (fun w hw => faE8 w _ _)
        · exact zld rfl ⟨_, rfl, by kernel_rfl⟩ _ _ _ rfl rfl (fun w hw => load_se (N := un) ((zca hw.tg 11).trans rfl) ((zca hw.tg 12).trans rfl) ((zca hw.tg 13).trans rfl) ((zca hw.tg 14).trans rfl))
        · exact zfa rfl ⟨_, rfl, by kernel_rfl⟩ _ _ _ _ rfl rfl (fun w hw => faE8 w _ _)
        · exact zld rfl ⟨_, rfl, by kernel_rfl⟩ _ _ _ rfl rfl (fun w hw => load_se (N := un) ((zca hw.bx 11).trans rfl) ((zca hw.bx 12).trans rfl) ((zca hw.bx 13).trans rfl) ((zca hw.bx 14).trans rfl))
        · exact zbo rfl ⟨_, rfl, by kernel_rfl⟩ _ _ _ _ _ _ _ rfl rfl rfl (fun w hw => (eql4 _ _ un un hun hun w).trans (congrArg (fun z => Result.ok (Value.bool z) w) (decide_eq_true rfl)))
        · exact step_pick rfl trivial _ _ _ true rfl (by kernel_rfl) (by kernel_rfl)
        · exact zas rfl trivial _ rfl (by kernel_rfl) (fun _ h => h)
      intro W hW
      simp only [Exit.then, finL, List.getD_cons_zero, List.getD_cons_succ, Nat.zero_add, Nat.reduceAdd, List.setIfInBounds_toArray, List.set_cons_zero, List.set_cons_succ]
      go_wp2
      go_ret
      exact ⟨by rw [hy]; exact congrArg (fun z => Ending.returned (Value.bool z)) (Eq.symm ((eqEv_iff _ _).2 (by simp at c0 c1 c2; simp [bareE]; omega))), hW.bl⟩
theorem rbare_4 (nd li ro ta of du : Int) (he un : Nat) (hhe : he < S128) (hun : un < S128) (w : World) : Calls Try.prog 17 #[evV ⟨4, nd, li, ro, ta, of, du, he, un⟩] w fun e w' => e = .returned (.bool (eqEv ⟨4, nd, li, ro, ta, of, du, he, un⟩ (bareE ⟨4, nd, li, ro, ta, of, du, he, un⟩))) ∧ Below w.heap.size w w' := by
 have hmx : Try.prog.follows .mixedOrders = true := by kernel_rfl
 have hJ0 : JX w (w.heap.size) (w.heap.size + 1) (w.heap.size) ⟨4, nd, li, ro, ta, of, du, he, un⟩ ⟨4, nd, li, 0, 0, 0, 0, 0, 0⟩ ((w.alloc (.cells (ecA ⟨4, nd, li, ro, ta, of, du, he, un⟩) 34)).alloc (.cells (ecA ⟨4, nd, li, 0, 0, 0, 0, 0, 0⟩) 34)) := ⟨zoa (zna rfl), zna (by simp), .inl rfl, ((Below.refl _ w).alloc (Nat.le_refl _) _).alloc (by simp) _, by omega, by omega, by omega⟩
 simp only [ecA, wdz] at hJ0
 obtain ⟨y, hy⟩ : ∃ y, y = Value.bool (eqEv ⟨4, nd, li, ro, ta, of, du, he, un⟩ (bareE ⟨4, nd, li, ro, ta, of, du, he, un⟩)) := ⟨_, rfl⟩
 rw [← hy]
 unfold evV ecA
 go_enter Try.func17, Try.ntmps17
 go_wp2
 refine wp_region_any hmx ?_
 refine zwt (G := Unit) (fun g i__ => ([(.pointer (some ⟨w.heap.size, 5, none⟩)), (.int .i64 of), (.pointer (some ⟨w.heap.size, 4, none⟩)), (.int .i64 ta), (.pointer (some ⟨w.heap.size, 3, none⟩)), (.int .i64 ro), (.pointer (some ⟨w.heap.size + 1, 5, none⟩)), undef, (.pointer (some ⟨w.heap.size + 1, 4, none⟩)), undef, (.pointer (some ⟨w.heap.size + 1, 3, none⟩)), undef] : List Value).getD i__ undef) (fun g d V => ∃ e2 : Ev, e2 = ⟨4, nd, li, if d 11 = true then ro else 0, if d 9 = true then ta else 0, if d 7 = true then of else 0, 0, 0, 0⟩ ∧ JX w (w.heap.size) (w.heap.size + 1) (w.heap.size) ⟨4, nd, li, ro, ta, of, du, he, un⟩ e2 V) (by kernel_rfl) (()) ⟨⟨4, nd, li, 0, 0, 0, 0, 0, 0⟩, by simp, hJ0.carry (Below.refl _ _).drew⟩ ?step3 ?fin3
 case step3 =>
  intro i o ho
  have hi : i < 12 := getElem?_lt ho
  match i, hi, ho with
  | 0, _, ho => cases ho; exact zgo fun g d hdep => zfa rfl trivial _ _ _ _ rfl rfl (fun w hw => faE5 w _ _)
  | 1, _, ho => cases ho; exact zgo fun g d hdep => zld rfl trivial _ _ _ rfl rfl (fun w hw => by obtain ⟨e2, he2, hw⟩ := hw; exact load_in ((zca hw.bx 5).trans rfl))
  | 2, _, ho => cases ho; exact zgo fun g d hdep => zfa rfl trivial _ _ _ _ rfl rfl (fun w hw => faE4 w _ _)
  | 3, _, ho => cases ho; exact zgo fun g d hdep => zld rfl trivial _ _ _ rfl rfl (fun w hw => by obtain ⟨e2, he2, hw⟩ := hw; exact load_in ((zca hw.bx 4).trans rfl))
  | 4, _, ho => cases ho; exact zgo fun g d hdep => zfa rfl trivial _ _ _ _ rfl rfl (fun w hw => faE3 w _ _)
  | 5, _, ho => cases ho; exact zgo fun g d hdep => zld rfl trivial _ _ _ rfl rfl (fun w hw => by obtain ⟨e2, he2, hw⟩ := hw; exact load_in ((zca hw.bx 3).trans rfl))
  | 6, _, ho => cases ho; exact zgo fun g d hdep => zfa rfl trivial _ _ _ _ rfl rfl (fun w hw => faE5 w _ _)
  | 7, _, ho => cases ho; exact stepG_store rfl rfl rfl _ _ _ (fun g => .pointer (some ⟨w.heap.size + 1, 5, none⟩)) (fun g => .int .i64 of) rfl (fun g => by kernel_rfl) (fun g => by kernel_rfl) (fun g d V hJ hun hdep => by obtain ⟨e2, he2, hJ'⟩ := hJ; refine ⟨_, st_in (z := e2.of) ((zca hJ'.tg 5).trans rfl) (zta hJ'.tg 5), { e2 with of := of }, ?_, hJ'.put 5 _ _ rfl⟩; rw [he2]; simp)
  | 8, _, ho => cases ho; exact zgo fun g d hdep => zfa rfl trivial _ _ _ _ rfl rfl (fun w hw => faE4 w _ _)
  | 9, _, ho => cases ho; exact stepG_store rfl rfl rfl _ _ _ (fun g => .pointer (some ⟨w.heap.size + 1, 4, none⟩)) (fun g => .int .i64 ta) rfl (fun g => by kernel_rfl) (fun g => by kernel_rfl) (fun g d V hJ hun hdep => by obtain ⟨e2, he2, hJ'⟩ := hJ; refine ⟨_, st_in (z := e2.ta) ((zca hJ'.tg 4).trans rfl) (zta hJ'.tg 4), { e2 with ta := ta }, ?_, hJ'.put 4 _ _ rfl⟩; rw [he2]; simp)
  | 10, _, ho => cases ho; exact zgo fun g d hdep => zfa rfl trivial _ _ _ _ rfl rfl (fun w hw => faE3 w _ _)
  | 11, _, ho => cases ho; exact stepG_store rfl rfl rfl _ _ _ (fun g => .pointer (some ⟨w.heap.size + 1, 3, none⟩)) (fun g => .int .i64 ro) rfl (fun g => by kernel_rfl) (fun g => by kernel_rfl) (fun g d V hJ hun hdep => by obtain ⟨e2, he2, hJ'⟩ := hJ; refine ⟨_, st_in (z := e2.ro) ((zca hJ'.tg 3).trans rfl) (zta hJ'.tg 3), { e2 with ro := ro }, ?_, hJ'.put 3 _ _ rfl⟩; rw [he2]; simp)
 intro g d W hall hW
 first | refine hK _ _ ?_ | refine (‹∀ (a : Act) (w : World), Code.wp Try.prog _ _ a w → _›) _ _ ?_ | skip
 simp only [finL, List.getD_cons_zero, List.getD_cons_succ, Nat.zero_add, Nat.reduceAdd, List.setIfInBounds_toArray, List.set_cons_zero, List.set_cons_succ]
 rw [hall 7 (by decide), hall 9 (by decide), hall 11 (by decide)] at hW
 obtain ⟨e2, he2, hJ2⟩ := hW
 simp only [if_true] at he2
 have HE : Hid (e2 = _) := he2
 clear hall hJ0 he2
 have hJ3 := hJ2
 rw [HE.out] at hJ3
 clear hJ2
 go_upto_region 13 with fail
 cases c0 : (0 == du) with
 | false =>
  refine wp_region ?_
  refine wpOps_pure0 (fun i__ => ([(.pointer (some ⟨w.heap.size + 1, 3, none⟩)), (.int .i64 ro), (.pointer (some ⟨w.heap.size, 3, none⟩)), (.int .i64 ro), (.bool true), (.bool true), (.pointer (some ⟨w.heap.size + 1, 4, none⟩)), (.int .i64 ta), (.pointer (some ⟨w.heap.size, 4, none⟩)), (.int .i64 ta), (.bool true), (.bool true), (.bool true), (.pointer (some ⟨w.heap.size + 1, 5, none⟩)), (.int .i64 of), (.pointer (some ⟨w.heap.size, 5, none⟩)), (.int .i64 of), (.bool true), (.bool true), (.bool true), (.pointer (some ⟨w.heap.size + 1, 6, none⟩)), (.int .i64 0), (.pointer (some ⟨w.heap.size, 6, none⟩)), (.int .i64 du), (.bool false), (.bool false), (.bool false), undef, undef, undef, undef, undef, (.bool false), (.bool false), undef, undef, undef, undef, undef, (.bool false), (.bool false)] : List Value).getD i__ undef) (fun V => JX w (w.heap.size) (w.heap.size + 1) (w.heap.size) ⟨4, nd, li, ro, ta, of, du, he, un⟩ ⟨4, nd, li, ro, ta, of, 0, 0, 0⟩ V) (by kernel_rfl) hJ3 ?_ ?_
  · refine (sqc ?_ (sqc ?_ (sqc ?_ (sqc ?_ (sqc ?_ (sqc ?_ (sqc ?_ (sqc ?_ (sqc ?_ (sqc ?_ (sqc ?_ (sqc ?_ (sqc ?_ (sqc ?_ (sqc ?_ (sqc ?_ (sqc ?_ (sqc ?_ (sqc ?_ (sqc ?_ (sqc ?_ (sqc ?_ (sqc ?_ (sqc ?_ (sqc ?_ (sqc ?_ (sqc ?_ (sqc ?_ (sqc ?_ (sqc ?_ (sqc ?_ (sqc ?_ (sqc ?_ (sqc ?_ (sqc ?_ (sqc ?_ (sqc ?_ (sqc ?_ (sqc ?_ (sqc ?_ (sqc ?_ trivial)))))))))))))))))))))))))))))))))))))))))
    · exact zfa rfl trivial _ _ _ _ rfl rfl (fun w hw => faE3 w _ _)
    · exact zld rfl trivial _ _ _ rfl rfl (fun w hw => load_in ((zca hw.tg 3).trans rfl))
    · exact zfa rfl trivial _ _ _ _ rfl rfl (fun w hw => faE3 w _ _)
    · exact zld rfl trivial _ _ _ rfl rfl (fun w hw => load_in ((zca hw.bx 3).trans rfl))
    · exact zbo rfl trivial _ _ _ _ _ _ _ rfl rfl rfl (fun w hw => (bin_eql .i64 ro ro).trans (congrArg (fun z => Result.ok (Value.bool z) w) (by simp)))
    · exact zmv rfl trivial _ rfl (by kernel_rfl)
    · exact zfa rfl ⟨_, rfl, by kernel_rfl⟩ _ _ _ _ rfl rfl (fun w hw => faE4 w _ _)
    · exact zld rfl ⟨_, rfl, by kernel_rfl⟩ _ _ _ rfl rfl (fun w hw => load_in ((zca hw.tg 4).trans rfl))
    · exact zfa rfl ⟨_, rfl, by kernel_rfl⟩ _ _ _ _ rfl rfl (fun w hw => faE4 w _ _)
    · exact zld rfl ⟨_, rfl, by kernel_rfl⟩ _ _ _ rfl rfl (fun w hw => load_in ((zca hw.bx 4).trans rfl))
    · exact zbo rfl ⟨_, rfl, by kernel_rfl⟩ _ _ _ _ _ _ _ rfl rfl rfl (fun w hw => (bin_eql .i64 ta ta).trans (congrArg (fun z => Result.ok (Value.bool z) w) (by simp)))
    · exact step_pick rfl trivial _ _ _ true rfl (by kernel_rfl) (by kernel_rfl)
    · exact zmv rfl trivial _ rfl (by kernel_rfl)
    · exact zfa rfl ⟨_, rfl, by kernel_rfl⟩ _ _ _ _ rfl rfl (fun w hw => faE5 w _ _)
    · exact zld rfl ⟨_, rfl, by kernel_rfl⟩ _ _ _ rfl rfl (fun w hw => load_in ((zca hw.tg 5).trans rfl))
    · exact zfa rfl ⟨_, rfl, by kernel_rfl⟩ _ _ _ _ rfl rfl (fun w hw => faE5 w _ _)
    · exact zld rfl ⟨_, rfl, by kernel_rfl⟩ _ _ _ rfl rfl (fun w hw => load_in ((zca hw.bx 5).trans rfl))
    · exact zbo rfl ⟨_, rfl, by kernel_rfl⟩ _ _ _ _ _ _ _ rfl rfl rfl (fun w hw => (bin_eql .i64 of of).trans (congrArg (fun z => Result.ok (Value.bool z) w) (by simp)))
    · exact step_pick rfl trivial _ _ _ true rfl (by kernel_rfl) (by kernel_rfl)
    · exact zmv rfl trivial _ rfl (by kernel_rfl)
    · exact zfa rfl ⟨_, rfl, by kernel_rfl⟩ _ _ _ _ rfl rfl (fun w hw => faE6 w _ _)
    · exact zld rfl ⟨_, rfl, by kernel_rfl⟩ _ _ _ rfl rfl (fun w hw => load_in ((zca hw.tg 6).trans rfl))
    · exact zfa rfl ⟨_, rfl, by kernel_rfl⟩ _ _ _ _ rfl rfl (fun w hw => faE6 w _ _)
    · exact zld rfl ⟨_, rfl, by kernel_rfl⟩ _ _ _ rfl rfl (fun w hw => load_in ((zca hw.bx 6).trans rfl))
    · exact zbo rfl ⟨_, rfl, by kernel_rfl⟩ _ _ _ _ _ _ _ rfl rfl rfl (fun w hw => by rw [← c0]; exact bin_eql _ _ _)
    · exact step_pick rfl trivial _ _ _ true rfl (by kernel_rfl) (by kernel_rfl)
    · exact zmv rfl trivial _ rfl (by kernel_rfl)
    · exact zsk rfl 26 true 82 (.bool false) rfl rfl (by kernel_rfl) (by intro h; cases h) rfl
    · exact zsk rfl 26 true 82 (.bool false) rfl rfl (by kernel_rfl) (by intro h; cases h) rfl
    · exact zsk rfl 26 true 82 (.bool false) rfl rfl (by kernel_rfl) (by intro h; cases h) rfl
    · exact zsk rfl 26 true 82 (.bool false) rfl rfl (by kernel_rfl) (by intro h; cases h) rfl
    · exact zsk rfl 26 true 82 (.bool false) rfl rfl (by kernel_rfl) (by intro h; cases h) rfl
    · exact step_pick rfl trivial _ _ _ false rfl (by kernel_rfl) (by kernel_rfl)
    · exact zmv rfl trivial _ rfl (by kernel_rfl)
    · exact zsk rfl 33 true 89 (.bool false) rfl rfl (by kernel_rfl) (by intro h; cases h) rfl
    · exact zsk rfl 33 true 89 (.bool false) rfl rfl (by kernel_rfl) (by intro h; cases h) rfl
    · exact zsk rfl 33 true 89 (.bool false) rfl rfl (by kernel_rfl) (by intro h; cases h) rfl
    · exact zsk rfl 33 true 89 (.bool false) rfl rfl (by kernel_rfl) (by intro h; cases h) rfl
    · exact zsk rfl 33 true 89 (.bool false) rfl rfl (by kernel_rfl) (by intro h; cases h) rfl
    · exact step_pick rfl trivial _ _ _ false rfl (by kernel_rfl) (by kernel_rfl)
    · exact zas rfl trivial _ rfl (by kernel_rfl) (fun _ h => h)
  intro W hW
  simp only [Exit.then, finL, List.getD_cons_zero, List.getD_cons_succ, Nat.zero_add, Nat.reduceAdd, List.setIfInBounds_toArray, List.set_cons_zero, List.set_cons_succ]
  go_wp2
  go_ret
  exact ⟨by rw [hy]; exact congrArg (fun z => Ending.returned (Value.bool z)) (Eq.symm (Bool.eq_false_iff.2 (fun hE => by have hE2 := (eqEv_iff _ _).1 hE; simp [bareE] at hE2; simp at c0; omega))), hW.bl⟩
 | true =>
  cases c1 : decide (0 = he) with
  | false =>
    refine wp_region ?_
    refine wpOps_pure0 (fun i__ => ([(.pointer (some ⟨w.heap.size + 1, 3, none⟩)), (.int .i64 ro), (.pointer (some ⟨w.heap.size, 3, none⟩)), (.int .i64 ro), (.bool true), (.bool true), (.pointer (some ⟨w.heap.size + 1, 4, none⟩)), (.int .i64 ta), (.pointer (some ⟨w.heap.size, 4, none⟩)), (.int .i64 ta), (.bool true), (.bool true), (.bool true), (.pointer (some ⟨w.heap.size + 1, 5, none⟩)), (.int .i64 of), (.pointer (some ⟨w.heap.size, 5, none⟩)), (.int .i64 of), (.bool true), (.bool true), (.bool true), (.pointer (some ⟨w.heap.size + 1, 6, none⟩)), (.int .i64 0), (.pointer (some ⟨w.heap.size, 6, none⟩)), (.int .i64 du), (.bool true), (.bool true), (.bool true), (.pointer (some ⟨w.heap.size + 1, 7, none⟩)), (sv 0), (.pointer (some ⟨w.heap.size, 7, none⟩)), (sv he), (.bool false), (.bool false), (.bool false), undef, undef, undef, undef, undef, (.bool false), (.bool false)] : List Value).getD i__ undef) (fun V => JX w (w.heap.size) (w.heap.size + 1) (w.heap.size) ⟨4, nd, li, ro, ta, of, du, he, un⟩ ⟨4, nd, li, ro, ta, of, 0, 0, 0⟩ V) (by kernel_rfl) hJ3 ?_ ?_
    · refine (sqc ?_ (sqc ?_ (sqc ?_ (sqc ?_ (sqc ?_ (sqc ?_ (sqc ?_ (sqc ?_ (sqc ?_ (sqc ?_ (sqc ?_ (sqc ?_ (sqc ?_ (sqc ?_ (sqc ?_ (sqc ?_ (sqc ?_ (sqc ?_ (sqc ?_ (sqc ?_ (sqc ?_ (sqc ?_ (sqc ?_ (sqc ?_ (sqc ?_ (sqc ?_ (sqc ?_ (sqc ?_ (sqc ?_ (sqc ?_ (sqc ?_ (sqc ?_ (sqc ?_ (sqc ?_ (sqc ?_ (sqc ?_ (sqc ?_ (sqc ?_ (sqc ?_ (sqc ?_ (sqc ?_ trivial)))))))))))))))))))))))))))))))))))))))))
      · exact zfa rfl trivial _ _ _ _ rfl rfl (fun w hw => faE3 w _ _)
      · exact zld rfl trivial _ _ _ rfl rfl (fun w hw => load_in ((zca hw.tg 3).trans rfl))
      · exact zfa rfl trivial _ _ _ _ rfl rfl (fun w hw => faE3 w _ _)
      · exact zld rfl trivial _ _ _ rfl rfl (fun w hw => load_in ((zca hw.bx 3).trans rfl))
      · exact zbo rfl trivial _ _ _ _ _ _ _ rfl rfl rfl (fun w hw => (bin_eql .i64 ro ro).trans (congrArg (fun z => Result.ok (Value.bool z) w) (by simp)))
      · exact zmv rfl trivial _ rfl (by kernel_rfl)
      · exact zfa rfl ⟨_, rfl, by kernel_rfl⟩ _ _ _ _ rfl rfl (fun w hw => faE4 w _ _)
      · exact zld rfl ⟨_, rfl, by kernel_rfl⟩ _ _ _ rfl rfl (fun w hw => load_in ((zca hw.tg 4).trans rfl))
      · exact zfa rfl ⟨_, rfl, by kernel_rfl⟩ _ _ _ _ rfl rfl (fun w hw => faE4 w _ _)
      · exact zld rfl ⟨_, rfl, by kernel_rfl⟩ _ _ _ rfl rfl (fun w hw => load_in ((zca hw.bx 4).trans rfl))
      · exact zbo rfl ⟨_, rfl, by kernel_rfl⟩ _ _ _ _ _ _ _ rfl rfl rfl (fun w hw => (bin_eql .i64 ta ta).trans (congrArg (fun z => Result.ok (Value.bool z) w) (by simp)))
      · exact step_pick rfl trivial _ _ _ true rfl (by kernel_rfl) (by kernel_rfl)
      · exact zmv rfl trivial _ rfl (by kernel_rfl)
      · exact zfa rfl ⟨_, rfl, by kernel_rfl⟩ _ _ _ _ rfl rfl (fun w hw => faE5 w _ _)
      · exact zld rfl ⟨_, rfl, by kernel_rfl⟩ _ _ _ rfl rfl (fun w hw => load_in ((zca hw.tg 5).trans rfl))
      · exact zfa rfl ⟨_, rfl, by kernel_rfl⟩ _ _ _ _ rfl rfl (fun w hw => faE5 w _ _)
      · exact zld rfl ⟨_, rfl, by kernel_rfl⟩ _ _ _ rfl rfl (fun w hw => load_in ((zca hw.bx 5).trans rfl))
      · exact zbo rfl ⟨_, rfl, by kernel_rfl⟩ _ _ _ _ _ _ _ rfl rfl rfl (fun w hw => (bin_eql .i64 of of).trans (congrArg (fun z => Result.ok (Value.bool z) w) (by simp)))
      · exact step_pick rfl trivial _ _ _ true rfl (by kernel_rfl) (by kernel_rfl)
      · exact zmv rfl trivial _ rfl (by kernel_rfl)
      · exact zfa rfl ⟨_, rfl, by kernel_rfl⟩ _ _ _ _ rfl rfl (fun w hw => faE6 w _ _)
      · exact zld rfl ⟨_, rfl, by kernel_rfl⟩ _ _ _ rfl rfl (fun w hw => load_in ((zca hw.tg 6).trans rfl))
      · exact zfa rfl ⟨_, rfl, by kernel_rfl⟩ _ _ _ _ rfl rfl (fun w hw => faE6 w _ _)
      · exact zld rfl ⟨_, rfl, by kernel_rfl⟩ _ _ _ rfl rfl (fun w hw => load_in ((zca hw.bx 6).trans rfl))
      · exact zbo rfl ⟨_, rfl, by kernel_rfl⟩ _ _ _ _ _ _ _ rfl rfl rfl (fun w hw => by rw [← c0]; exact bin_eql _ _ _)
      · exact step_pick rfl trivial _ _ _ true rfl (by kernel_rfl) (by kernel_rfl)
      · exact zmv rfl trivial _ rfl (by kernel_rfl)
      · exact zfa rfl ⟨_, rfl, by kernel_rfl⟩ _ _ _ _ rfl rfl (fun w hw => faE7 w _ _)
      · exact zld rfl ⟨_, rfl, by kernel_rfl⟩ _ _ _ rfl rfl (fun w hw => load_se (N := 0) ((zca hw.tg 7).trans rfl) ((zca hw.tg 8).trans rfl) ((zca hw.tg 9).trans rfl) ((zca hw.tg 10).trans rfl))
      · exact zfa rfl ⟨_, rfl, by kernel_rfl⟩ _ _ _ _ rfl rfl (fun w hw => faE7 w _ _)
      · exact zld rfl ⟨_, rfl, by kernel_rfl⟩ _ _ _ rfl rfl (fun w hw => load_se (N := he) ((zca hw.bx 7).trans rfl) ((zca hw.bx 8).trans rfl) ((zca hw.bx 9).trans rfl) ((zca hw.bx 10).trans rfl))
      · exact zbo rfl ⟨_, rfl, by kernel_rfl⟩ _ _ _ _ _ _ _ rfl rfl rfl (fun w hw => by rw [← c1]; exact eql4 _ _ 0 he s0lt hhe w)
      · exact step_pick rfl trivial _ _ _ true rfl (by kernel_rfl) (by kernel_rfl)
      · exact zmv rfl trivial _ rfl (by kernel_rfl)
      · exact zsk rfl 33 true 89 (.bool false) rfl rfl (by kernel_rfl) (by intro h; cases h) rfl
      · exact zsk rfl 33 true 89 (.bool false) rfl rfl (by kernel_rfl) (by intro h; cases h) rfl
      · exact zsk rfl 33 true 89 (.bool false) rfl rfl (by kernel_rfl) (by intro h; cases h) rfl
      · exact zsk rfl 33 true 89 (.bool false) rfl rfl (by kernel_rfl) (by intro h; cases h) rfl
      · exact zsk rfl 33 true 89 (.bool false) rfl rfl (by kernel_rfl) (by intro h; cases h) rfl
      · exact step_pick rfl trivial _ _ _ false rfl (by kernel_rfl) (by kernel_rfl)
      · exact zas rfl trivial _ rfl (by kernel_rfl) (fun _ h => h)
    intro W hW
    simp only [Exit.then, finL, List.getD_cons_zero, List.getD_cons_succ, Nat.zero_add, Nat.reduceAdd, List.setIfInBounds_toArray, List.set_cons_zero, List.set_cons_succ]
    go_wp2
    go_ret
    exact ⟨by rw [hy]; exact congrArg (fun z => Ending.returned (Value.bool z)) (Eq.symm (Bool.eq_false_iff.2 (fun hE => by have hE2 := (eqEv_iff _ _).1 hE; simp [bareE] at hE2; simp at c1; omega))), hW.bl⟩
  | true =>
    cases c2 : decide (0 = un) with
    | false =>
      refine wp_region ?_
      refine wpOps_pure0 (fun i__ => ([(.pointer (some ⟨w.heap.size + 1, 3, none⟩)), (.int .i64 ro), (.pointer (some ⟨w.heap.size, 3, none⟩)), (.int .i64 ro), (.bool true), (.bool true), (.pointer (some ⟨w.heap.size + 1, 4, none⟩)), (.int .i64 ta), (.pointer (some ⟨w.heap.size, 4, none⟩)), (.int .i64 ta), (.bool true), (.bool true), (.bool true), (.pointer (some ⟨w.heap.size + 1, 5, none⟩)), (.int .i64 of), (.pointer (some ⟨w.heap.size, 5, none⟩)), (.int .i64 of), (.bool true), (.bool true), (.bool true), (.pointer (some ⟨w.heap.size + 1, 6, none⟩)), (.int .i64 0), (.pointer (some ⟨w.heap.size, 6, none⟩)), (.int .i64 du), (.bool true), (.bool true), (.bool true), (.pointer (some ⟨w.heap.size + 1, 7, none⟩)), (sv 0), (.pointer (some ⟨w.heap.size, 7, none⟩)), (sv he), (.bool true), (.bool true), (.bool true), (.pointer (some ⟨w.heap.size + 1, 11, none⟩)), (sv 0), (.pointer (some ⟨w.heap.size, 11, none⟩)), (sv un), (.bool false), (.bool false), (.bool false)] : List Value).getD i__ undef) (fun V => JX w (w.heap.size) (w.heap.size + 1) (w.heap.size) ⟨4, nd, li, ro, ta, of, du, he, un⟩ ⟨4, nd, li, ro, ta, of, 0, 0, 0⟩ V) (by kernel_rfl) hJ3 ?_ ?_
      · refine (sqc ?_ (sqc ?_ (sqc ?_ (sqc ?_ (sqc ?_ (sqc ?_ (sqc ?_ (sqc ?_ (sqc ?_ (sqc ?_ (sqc ?_ (sqc ?_ (sqc ?_ (sqc ?_ (sqc ?_ (sqc ?_ (sqc ?_ (sqc ?_ (sqc ?_ (sqc ?_ (sqc ?_ (sqc ?_ (sqc ?_ (sqc ?_ (sqc ?_ (sqc ?_ (sqc ?_ (sqc ?_ (sqc ?_ (sqc ?_ (sqc ?_ (sqc ?_ (sqc ?_ (sqc ?_ (sqc ?_ (sqc ?_ (sqc ?_ (sqc ?_ (sqc ?_ (sqc ?_ (sqc ?_ trivial)))))))))))))))))))))))))))))))))))))))))
        · exact zfa rfl trivial _ _ _ _ rfl rfl (fun w hw => faE3 w _ _)
        · exact zld rfl trivial _ _ _ rfl rfl (fun w hw => load_in ((zca hw.tg 3).trans rfl))
        · exact zfa rfl trivial _ _ _ _ rfl rfl (fun w hw => faE3 w _ _)
        · exact zld rfl trivial _ _ _ rfl rfl (fun w hw => load_in ((zca hw.bx 3).trans rfl))
        · exact zbo rfl trivial _ _ _ _ _ _ _ rfl rfl rfl (fun w hw => (bin_eql .i64 ro ro).trans (congrArg (fun z => Result.ok (Value.bool z) w) (by simp)))
        · exact zmv rfl trivial _ rfl (by kernel_rfl)
        · exact zfa rfl ⟨_, rfl, by kernel_rfl⟩ _ _ _ _ rfl rfl (fun w hw => faE4 w _ _)
        · exact zld rfl ⟨_, rfl, by kernel_rfl⟩ _ _ _ rfl rfl (fun w hw => load_in ((zca hw.tg 4).trans rfl))
        · exact zfa rfl ⟨_, rfl, by kernel_rfl⟩ _ _ _ _ rfl rfl (fun w hw => faE4 w _ _)
        · exact zld rfl ⟨_, rfl, by kernel_rfl⟩ _ _ _ rfl rfl (fun w hw => load_in ((zca hw.bx 4).trans rfl))
        · exact zbo rfl ⟨_, rfl, by kernel_rfl⟩ _ _ _ _ _ _ _ rfl rfl rfl (fun w hw => (bin_eql .i64 ta ta).trans (congrArg (fun z => Result.ok (Value.bool z) w) (by simp)))
        · exact step_pick rfl trivial _ _ _ true rfl (by kernel_rfl) (by kernel_rfl)
        · exact zmv rfl trivial _ rfl (by kernel_rfl)
        · exact zfa rfl ⟨_, rfl, by kernel_rfl⟩ _ _ _ _ rfl rfl (fun w hw => faE5 w _ _)
        · exact zld rfl ⟨_, rfl, by kernel_rfl⟩ _ _ _ rfl rfl (fun w hw => load_in ((zca hw.tg 5).trans rfl))
        · exact zfa rfl ⟨_, rfl, by kernel_rfl⟩ _ _ _ _ rfl rfl (fun w hw => faE5 w _ _)
        · exact zld rfl ⟨_, rfl, by kernel_rfl⟩ _ _ _ rfl rfl (fun w hw => load_in ((zca hw.bx 5).trans rfl))
        · exact zbo rfl ⟨_, rfl, by kernel_rfl⟩ _ _ _ _ _ _ _ rfl rfl rfl (fun w hw => (bin_eql .i64 of of).trans (congrArg (fun z => Result.ok (Value.bool z) w) (by simp)))
        · exact step_pick rfl trivial _ _ _ true rfl (by kernel_rfl) (by kernel_rfl)
        · exact zmv rfl trivial _ rfl (by kernel_rfl)
        · exact zfa rfl ⟨_, rfl, by kernel_rfl⟩ _ _ _ _ rfl rfl (fun w hw => faE6 w _ _)
        · exact zld rfl ⟨_, rfl, by kernel_rfl⟩ _ _ _ rfl rfl (fun w hw => load_in ((zca hw.tg 6).trans rfl))
        · exact zfa rfl ⟨_, rfl, by kernel_rfl⟩ _ _ _ _ rfl rfl (fun w hw => faE6 w _ _)
        · exact zld rfl ⟨_, rfl, by kernel_rfl⟩ _ _ _ rfl rfl (fun w hw => load_in ((zca hw.bx 6).trans rfl))
        · exact zbo rfl ⟨_, rfl, by kernel_rfl⟩ _ _ _ _ _ _ _ rfl rfl rfl (fun w hw => by rw [← c0]; exact bin_eql _ _ _)
        · exact step_pick rfl trivial _ _ _ true rfl (by kernel_rfl) (by kernel_rfl)
        · exact zmv rfl trivial _ rfl (by kernel_rfl)
        · exact zfa rfl ⟨_, rfl, by kernel_rfl⟩ _ _ _ _ rfl rfl (fun w hw => faE7 w _ _)
        · exact zld rfl ⟨_, rfl, by kernel_rfl⟩ _ _ _ rfl rfl (fun w hw => load_se (N := 0) ((zca hw.tg 7).trans rfl) ((zca hw.tg 8).trans rfl) ((zca hw.tg 9).trans rfl) ((zca hw.tg 10).trans rfl))
        · exact zfa rfl ⟨_, rfl, by kernel_rfl⟩ _ _ _ _ rfl rfl (fun w hw => faE7 w _ _)
        · exact zld rfl ⟨_, rfl, by kernel_rfl⟩ _ _ _ rfl rfl (fun w hw => load_se (N := he) ((zca hw.bx 7).trans rfl) ((zca hw.bx 8).trans rfl) ((zca hw.bx 9).trans rfl) ((zca hw.bx 10).trans rfl))
        · exact zbo rfl ⟨_, rfl, by kernel_rfl⟩ _ _ _ _ _ _ _ rfl rfl rfl (fun w hw => by rw [← c1]; exact eql4 _ _ 0 he s0lt hhe w)
        · exact step_pick rfl trivial _ _ _ true rfl (by kernel_rfl) (by kernel_rfl)
        · exact zmv rfl trivial _ rfl (by kernel_rfl)
        · exact zfa rfl ⟨_, rfl, by kernel_rfl⟩ _ _ _ _ rfl rfl (fun w hw => faE8 w _ _)
        · exact zld rfl ⟨_, rfl, by kernel_rfl⟩ _ _ _ rfl rfl (fun w hw => load_se (N := 0) ((zca hw.tg 11).trans rfl) ((zca hw.tg 12).trans rfl) ((zca hw.tg 13).trans rfl) ((zca hw.tg 14).trans rfl))
        · exact zfa rfl ⟨_, rfl, by kernel_rfl⟩ _ _ _ _ rfl rfl (fun w hw => faE8 w _ _)
        · exact zld rfl ⟨_, rfl, by kernel_rfl⟩ _ _ _ rfl rfl (fun w hw => load_se (N := un) ((zca hw.bx 11).trans rfl) ((zca hw.bx 12).trans rfl) ((zca hw.bx 13).trans rfl) ((zca hw.bx 14).trans rfl))
        · exact zbo rfl ⟨_, rfl, by kernel_rfl⟩ _ _ _ _ _ _ _ rfl rfl rfl (fun w hw => by rw [← c2]; exact eql4 _ _ 0 un s0lt hun w)
        · exact step_pick rfl trivial _ _ _ true rfl (by kernel_rfl) (by kernel_rfl)
        · exact zas rfl trivial _ rfl (by kernel_rfl) (fun _ h => h)
      intro W hW
      simp only [Exit.then, finL, List.getD_cons_zero, List.getD_cons_succ, Nat.zero_add, Nat.reduceAdd, List.setIfInBounds_toArray, List.set_cons_zero, List.set_cons_succ]
      go_wp2
      go_ret
      exact ⟨by rw [hy]; exact congrArg (fun z => Ending.returned (Value.bool z)) (Eq.symm (Bool.eq_false_iff.2 (fun hE => by have hE2 := (eqEv_iff _ _).1 hE; simp [bareE] at hE2; simp at c2; omega))), hW.bl⟩
    | true =>
      refine wp_region ?_
      refine wpOps_pure0 (fun i__ => ([(.pointer (some ⟨w.heap.size + 1, 3, none⟩)), (.int .i64 ro), (.pointer (some ⟨w.heap.size, 3, none⟩)), (.int .i64 ro), (.bool true), (.bool true), (.pointer (some ⟨w.heap.size + 1, 4, none⟩)), (.int .i64 ta), (.pointer (some ⟨w.heap.size, 4, none⟩)), (.int .i64 ta), (.bool true), (.bool true), (.bool true), (.pointer (some ⟨w.heap.size + 1, 5, none⟩)), (.int .i64 of), (.pointer (some ⟨w.heap.size, 5, none⟩)), (.int .i64 of), (.bool true), (.bool true), (.bool true), (.pointer (some ⟨w.heap.size + 1, 6, none⟩)), (.int .i64 0), (.pointer (some ⟨w.heap.size, 6, none⟩)), (.int .i64 du), (.bool true), (.bool true), (.bool true), (.pointer (some ⟨w.heap.size + 1, 7, none⟩)), (sv 0), (.pointer (some ⟨w.heap.size, 7, none⟩)), (sv he), (.bool true), (.bool true), (.bool true), (.pointer (some ⟨w.heap.size + 1, 11, none⟩)), (sv 0), (.pointer (some ⟨w.heap.size, 11, none⟩)), (sv un), (.bool true), (.bool true), (.bool true)] : List Value).getD i__ undef) (fun V => JX w (w.heap.size) (w.heap.size + 1) (w.heap.size) ⟨4, nd, li, ro, ta, of, du, he, un⟩ ⟨4, nd, li, ro, ta, of, 0, 0, 0⟩ V) (by kernel_rfl) hJ3 ?_ ?_
      · refine (sqc ?_ (sqc ?_ (sqc ?_ (sqc ?_ (sqc ?_ (sqc ?_ (sqc ?_ (sqc ?_ (sqc ?_ (sqc ?_ (sqc ?_ (sqc ?_ (sqc ?_ (sqc ?_ (sqc ?_ (sqc ?_ (sqc ?_ (sqc ?_ (sqc ?_ (sqc ?_ (sqc ?_ (sqc ?_ (sqc ?_ (sqc ?_ (sqc ?_ (sqc ?_ (sqc ?_ (sqc ?_ (sqc ?_ (sqc ?_ (sqc ?_ (sqc ?_ (sqc ?_ (sqc ?_ (sqc ?_ (sqc ?_ (sqc ?_ (sqc ?_ (sqc ?_ (sqc ?_ (sqc ?_ trivial)))))))))))))))))))))))))))))))))))))))))
        · exact zfa rfl trivial _ _ _ _ rfl rfl (fun w hw => faE3 w _ _)
        · exact zld rfl trivial _ _ _ rfl rfl (fun w hw => load_in ((zca hw.tg 3).trans rfl))
        · exact zfa rfl trivial _ _ _ _ rfl rfl (fun w hw => faE3 w _ _)
        · exact zld rfl trivial _ _ _ rfl rfl (fun w hw => load_in ((zca hw.bx 3).trans rfl))
        · exact zbo rfl trivial _ _ _ _ _ _ _ rfl rfl rfl (fun w hw => (bin_eql .i64 ro ro).trans (congrArg (fun z => Result.ok (Value.bool z) w) (by simp)))
        · exact zmv rfl trivial _ rfl (by kernel_rfl)
        · exact zfa rfl ⟨_, rfl, by kernel_rfl⟩ _ _ _ _ rfl rfl (fun w hw => faE4 w _ _)
        · exact zld rfl ⟨_, rfl, by kernel_rfl⟩ _ _ _ rfl rfl (fun w hw => load_in ((zca hw.tg 4).trans rfl))
        · exact zfa rfl ⟨_, rfl, by kernel_rfl⟩ _ _ _ _ rfl rfl (fun w hw => faE4 w _ _)
        · exact zld rfl ⟨_, rfl, by kernel_rfl⟩ _ _ _ rfl rfl (fun w hw => load_in ((zca hw.bx 4).trans rfl))
        · exact zbo rfl ⟨_, rfl, by kernel_rfl⟩ _ _ _ _ _ _ _ rfl rfl rfl (fun w hw => (bin_eql .i64 ta ta).trans (congrArg (fun z => Result.ok (Value.bool z) w) (by simp)))
        · exact step_pick rfl trivial _ _ _ true rfl (by kernel_rfl) (by kernel_rfl)
        · exact zmv rfl trivial _ rfl (by kernel_rfl)
        · exact zfa rfl ⟨_, rfl, by kernel_rfl⟩ _ _ _ _ rfl rfl (fun w hw => faE5 w _ _)
        · exact zld rfl ⟨_, rfl, by kernel_rfl⟩ _ _ _ rfl rfl (fun w hw => load_in ((zca hw.tg 5).trans rfl))
        · exact zfa rfl ⟨_, rfl, by kernel_rfl⟩ _ _ _ _ rfl rfl (fun w hw => faE5 w _ _)
        · exact zld rfl ⟨_, rfl, by kernel_rfl⟩ _ _ _ rfl rfl (fun w hw => load_in ((zca hw.bx 5).trans rfl))
        · exact zbo rfl ⟨_, rfl, by kernel_rfl⟩ _ _ _ _ _ _ _ rfl rfl rfl (fun w hw => (bin_eql .i64 of of).trans (congrArg (fun z => Result.ok (Value.bool z) w) (by simp)))
        · exact step_pick rfl trivial _ _ _ true rfl (by kernel_rfl) (by kernel_rfl)
        · exact zmv rfl trivial _ rfl (by kernel_rfl)
        · exact zfa rfl ⟨_, rfl, by kernel_rfl⟩ _ _ _ _ rfl rfl (fun w hw => faE6 w _ _)
        · exact zld rfl ⟨_, rfl, by kernel_rfl⟩ _ _ _ rfl rfl (fun w hw => load_in ((zca hw.tg 6).trans rfl))
        · exact zfa rfl ⟨_, rfl, by kernel_rfl⟩ _ _ _ _ rfl rfl (fun w hw => faE6 w _ _)
        · exact zld rfl ⟨_, rfl, by kernel_rfl⟩ _ _ _ rfl rfl (fun w hw => load_in ((zca hw.bx 6).trans rfl))
        · exact zbo rfl ⟨_, rfl, by kernel_rfl⟩ _ _ _ _ _ _ _ rfl rfl rfl (fun w hw => by rw [← c0]; exact bin_eql _ _ _)
        · exact step_pick rfl trivial _ _ _ true rfl (by kernel_rfl) (by kernel_rfl)
        · exact zmv rfl trivial _ rfl (by kernel_rfl)
        · exact zfa rfl ⟨_, rfl, by kernel_rfl⟩ _ _ _ _ rfl rfl (fun w hw => faE7 w _ _)
        · exact zld rfl ⟨_, rfl, by kernel_rfl⟩ _ _ _ rfl rfl (fun w hw => load_se (N := 0) ((zca hw.tg 7).trans rfl) ((zca hw.tg 8).trans rfl) ((zca hw.tg 9).trans rfl) ((zca hw.tg 10).trans rfl))
        · exact zfa rfl ⟨_, rfl, by kernel_rfl⟩ _ _ _ _ rfl rfl (fun w hw => faE7 w _ _)
        · exact zld rfl ⟨_, rfl, by kernel_rfl⟩ _ _ _ rfl rfl (fun w hw => load_se (N := he) ((zca hw.bx 7).trans rfl) ((zca hw.bx 8).trans rfl) ((zca hw.bx 9).trans rfl) ((zca hw.bx 10).trans rfl))
        · exact zbo rfl ⟨_, rfl, by kernel_rfl⟩ _ _ _ _ _ _ _ rfl rfl rfl (fun w hw => by rw [← c1]; exact eql4 _ _ 0 he s0lt hhe w)
        · exact step_pick rfl trivial _ _ _ true rfl (by kernel_rfl) (by kernel_rfl)
        · exact zmv rfl trivial _ rfl (by kernel_rfl)
        · exact zfa rfl ⟨_, rfl, by kernel_rfl⟩ _ _ _ _ rfl rfl (fun w hw => faE8 w _ _)
        · exact zld rfl ⟨_, rfl, by kernel_rfl⟩ _ _ _ rfl rfl (fun w hw => load_se (N := 0) ((zca hw.tg 11).trans rfl) ((zca hw.tg 12).trans rfl) ((zca hw.tg 13).trans rfl) ((zca hw.tg 14).trans rfl))
        · exact zfa rfl ⟨_, rfl, by kernel_rfl⟩ _ _ _ _ rfl rfl (fun w hw => faE8 w _ _)
        · exact zld rfl ⟨_, rfl, by kernel_rfl⟩ _ _ _ rfl rfl (fun w hw => load_se (N := un) ((zca hw.bx 11).trans rfl) ((zca hw.bx 12).trans rfl) ((zca hw.bx 13).trans rfl) ((zca hw.bx 14).trans rfl))
        · exact zbo rfl ⟨_, rfl, by kernel_rfl⟩ _ _ _ _ _ _ _ rfl rfl rfl (fun w hw => by rw [← c2]; exact eql4 _ _ 0 un s0lt hun w)
        · exact step_pick rfl trivial _ _ _ true rfl (by kernel_rfl) (by kernel_rfl)
        · exact zas rfl trivial _ rfl (by kernel_rfl) (fun _ h => h)
      intro W hW
      simp only [Exit.then, finL, List.getD_cons_zero, List.getD_cons_succ, Nat.zero_add, Nat.reduceAdd, List.setIfInBounds_toArray, List.set_cons_zero, List.set_cons_succ]
      go_wp2
      go_ret
      exact ⟨by rw [hy]; exact congrArg (fun z => Ending.returned (Value.bool z)) (Eq.symm ((eqEv_iff _ _).2 (by simp at c0 c1 c2; simp [bareE]; omega))), hW.bl⟩
theorem rbare_5 (nd li ro ta of du : Int) (he un : Nat) (hhe : he < S128) (hun : un < S128) (w : World) : Calls Try.prog 17 #[evV ⟨5, nd, li, ro, ta, of, du, he, un⟩] w fun e w' => e = .returned (.bool (eqEv ⟨5, nd, li, ro, ta, of, du, he, un⟩ (bareE ⟨5, nd, li, ro, ta, of, du, he, un⟩))) ∧ Below w.heap.size w w' := by
 have hmx : Try.prog.follows .mixedOrders = true := by kernel_rfl
 have hJ0 : JX w (w.heap.size) (w.heap.size + 1) (w.heap.size) ⟨5, nd, li, ro, ta, of, du, he, un⟩ ⟨5, nd, li, 0, 0, 0, 0, 0, 0⟩ ((w.alloc (.cells (ecA ⟨5, nd, li, ro, ta, of, du, he, un⟩) 34)).alloc (.cells (ecA ⟨5, nd, li, 0, 0, 0, 0, 0, 0⟩) 34)) := ⟨zoa (zna rfl), zna (by simp), .inl rfl, ((Below.refl _ w).alloc (Nat.le_refl _) _).alloc (by simp) _, by omega, by omega, by omega⟩
 simp only [ecA, wdz] at hJ0
 obtain ⟨y, hy⟩ : ∃ y, y = Value.bool (eqEv ⟨5, nd, li, ro, ta, of, du, he, un⟩ (bareE ⟨5, nd, li, ro, ta, of, du, he, un⟩)) := ⟨_, rfl⟩
 rw [← hy]
 unfold evV ecA
 go_enter Try.func17, Try.ntmps17
 go_wp2
 refine wp_region_any hmx ?_
 refine zwt (G := Unit) (fun g i__ => ([(.pointer (some ⟨w.heap.size, 4, none⟩)), (.int .i64 ta), (.pointer (some ⟨w.heap.size, 6, none⟩)), (.int .i64 du), (.pointer (some ⟨w.heap.size + 1, 4, none⟩)), undef, (.pointer (some ⟨w.heap.size + 1, 6, none⟩)), undef] : List Value).getD i__ undef) (fun g d V => ∃ e2 : Ev, e2 = ⟨5, nd, li, 0, if d 5 = true then ta else 0, 0, if d 7 = true then du else 0, 0, 0⟩ ∧ JX w (w.heap.size) (w.heap.size + 1) (w.heap.size) ⟨5, nd, li, ro, ta, of, du, he, un⟩ e2 V) (by kernel_rfl) (()) ⟨⟨5, nd, li, 0, 0, 0, 0, 0, 0⟩, by simp, hJ0.carry (Below.refl _ _).drew⟩ ?step4 ?fin4
 case step4 =>
  intro i o ho
  have hi : i < 8 := getElem?_lt ho
  match i, hi, ho with
  | 0, _, ho => cases ho; exact zgo fun g d hdep => zfa rfl trivial _ _ _ _ rfl rfl (fun w hw => faE4 w _ _)
  | 1, _, ho => cases ho; exact zgo fun g d hdep => zld rfl trivial _ _ _ rfl rfl (fun w hw => by obtain ⟨e2, he2, hw⟩ := hw; exact load_in ((zca hw.bx 4).trans rfl))
  | 2, _, ho => cases ho; exact zgo fun g d hdep => zfa rfl trivial _ _ _ _ rfl rfl (fun w hw => faE6 w _ _)
  | 3, _, ho => cases ho; exact zgo fun g d hdep => zld rfl trivial _ _ _ rfl rfl (fun w hw => by obtain ⟨e2, he2, hw⟩ := hw; exact load_in ((zca hw.bx 6).trans rfl))
  | 4, _, ho => cases ho; exact zgo fun g d hdep => zfa rfl trivial _ _ _ _ rfl rfl (fun w hw => faE4 w _ _)
  | 5, _, ho => cases ho; exact stepG_store rfl rfl rfl _ _ _ (fun g => .pointer (some ⟨w.heap.size + 1, 4, none⟩)) (fun g => .int .i64 ta) rfl (fun g => by kernel_rfl) (fun g => by kernel_rfl) (fun g d V hJ hun hdep => by obtain ⟨e2, he2, hJ'⟩ := hJ; refine ⟨_, st_in (z := e2.ta) ((zca hJ'.tg 4).trans rfl) (zta hJ'.tg 4), { e2 with ta := ta }, ?_, hJ'.put 4 _ _ rfl⟩; rw [he2]; simp)
  | 6, _, ho => cases ho; exact zgo fun g d hdep => zfa rfl trivial _ _ _ _ rfl rfl (fun w hw => faE6 w _ _)
  | 7, _, ho => cases ho; exact stepG_store rfl rfl rfl _ _ _ (fun g => .pointer (some ⟨w.heap.size + 1, 6, none⟩)) (fun g => .int .i64 du) rfl (fun g => by kernel_rfl) (fun g => by kernel_rfl) (fun g d V hJ hun hdep => by obtain ⟨e2, he2, hJ'⟩ := hJ; refine ⟨_, st_in (z := e2.du) ((zca hJ'.tg 6).trans rfl) (zta hJ'.tg 6), { e2 with du := du }, ?_, hJ'.put 6 _ _ rfl⟩; rw [he2]; simp)
 intro g d W hall hW
 first | refine hK _ _ ?_ | refine (‹∀ (a : Act) (w : World), Code.wp Try.prog _ _ a w → _›) _ _ ?_ | skip
 simp only [finL, List.getD_cons_zero, List.getD_cons_succ, Nat.zero_add, Nat.reduceAdd, List.setIfInBounds_toArray, List.set_cons_zero, List.set_cons_succ]
 rw [hall 5 (by decide), hall 7 (by decide)] at hW
 obtain ⟨e2, he2, hJ2⟩ := hW
 simp only [if_true] at he2
 have HE : Hid (e2 = _) := he2
 clear hall hJ0 he2
 have hJ3 := hJ2
 rw [HE.out] at hJ3
 clear hJ2
 go_upto_region 13 with fail
 cases c0 : (0 == ro) with
 | false =>
  refine wp_region ?_
  refine wpOps_pure0 (fun i__ => ([(.pointer (some ⟨w.heap.size + 1, 3, none⟩)), (.int .i64 0), (.pointer (some ⟨w.heap.size, 3, none⟩)), (.int .i64 ro), (.bool false), (.bool false), undef, undef, undef, undef, undef, (.bool false), (.bool false), undef, undef, undef, undef, undef, (.bool false), (.bool false), undef, undef, undef, undef, undef, (.bool false), (.bool false), undef, undef, undef, undef, undef, (.bool false), (.bool false), undef, undef, undef, undef, undef, (.bool false), (.bool false)] : List Value).getD i__ undef) (fun V => JX w (w.heap.size) (w.heap.size + 1) (w.heap.size) ⟨5, nd, li, ro, ta, of, du, he, un⟩ ⟨5, nd, li, 0, ta, 0, du, 0, 0⟩ V) (by kernel_rfl) hJ3 ?_ ?_
  · refine (sqc ?_ (sqc ?_ (sqc ?_ (sqc ?_ (sqc ?_ (sqc ?_ (sqc ?_ (sqc ?_ (sqc ?_ (sqc ?_ (sqc ?_ (sqc ?_ (sqc ?_ (sqc ?_ (sqc ?_ (sqc ?_ (sqc ?_ (sqc ?_ (sqc ?_ (sqc ?_ (sqc ?_ (sqc ?_ (sqc ?_ (sqc ?_ (sqc ?_ (sqc ?_ (sqc ?_ (sqc ?_ (sqc ?_ (sqc ?_ (sqc ?_ (sqc ?_ (sqc ?_ (sqc ?_ (sqc ?_ (sqc ?_ (sqc ?_ (sqc ?_ (sqc ?_ (sqc ?_ (sqc ?_ trivial)))))))))))))))))))))))))))))))))))))))))
    · exact zfa rfl trivial _ _ _ _ rfl rfl (fun w hw => faE3 w _ _)
    · exact zld rfl trivial _ _ _ rfl rfl (fun w hw => load_in ((zca hw.tg 3).trans rfl))
    · exact zfa rfl trivial _ _ _ _ rfl rfl (fun w hw => faE3 w _ _)
    · exact zld rfl trivial _ _ _ rfl rfl (fun w hw => load_in ((zca hw.bx 3).trans rfl))
    · exact zbo rfl trivial _ _ _ _ _ _ _ rfl rfl rfl (fun w hw => by rw [← c0]; exact bin_eql _ _ _)
    · exact zmv rfl trivial _ rfl (by kernel_rfl)
    · exact zsk rfl 5 true 61 (.bool false) rfl rfl (by kernel_rfl) (by intro h; cases h) rfl
    · exact zsk rfl 5 true 61 (.bool false) rfl rfl (by kernel_rfl) (by intro h; cases h) rfl
    · exact zsk rfl 5 true 61 (.bool false) rfl rfl (by kernel_rfl) (by intro h; cases h) rfl
    · exact zsk rfl 5 true 61 (.bool false) rfl rfl (by kernel_rfl) (by intro h; cases h) rfl
    · exact zsk rfl 5 true 61 (.bool false) rfl rfl (by kernel_rfl) (by intro h; cases h) rfl
    · exact step_pick rfl trivial _ _ _ false rfl (by kernel_rfl) (by kernel_rfl)
    · exact zmv rfl trivial _ rfl (by kernel_rfl)
    · exact zsk rfl 12 true 68 (.bool false) rfl rfl (by kernel_rfl) (by intro h; cases h) rfl
    · exact zsk rfl 12 true 68 (.bool false) rfl rfl (by kernel_rfl) (by intro h; cases h) rfl
    · exact zsk rfl 12 true 68 (.bool false) rfl rfl (by kernel_rfl) (by intro h; cases h) rfl
    · exact zsk rfl 12 true 68 (.bool false) rfl rfl (by kernel_rfl) (by intro h; cases h) rfl
    · exact zsk rfl 12 true 68 (.bool false) rfl rfl (by kernel_rfl) (by intro h; cases h) rfl
    · exact step_pick rfl trivial _ _ _ false rfl (by kernel_rfl) (by kernel_rfl)
    · exact zmv rfl trivial _ rfl (by kernel_rfl)
    · exact zsk rfl 19 true 75 (.bool false) rfl rfl (by kernel_rfl) (by intro h; cases h) rfl
    · exact zsk rfl 19 true 75 (.bool false) rfl rfl (by kernel_rfl) (by intro h; cases h) rfl
    · exact zsk rfl 19 true 75 (.bool false) rfl rfl (by kernel_rfl) (by intro h; cases h) rfl
    · exact zsk rfl 19 true 75 (.bool false) rfl rfl (by kernel_rfl) (by intro h; cases h) rfl
    · exact zsk rfl 19 true 75 (.bool false) rfl rfl (by kernel_rfl) (by intro h; cases h) rfl
    · exact step_pick rfl trivial _ _ _ false rfl (by kernel_rfl) (by kernel_rfl)
    · exact zmv rfl trivial _ rfl (by kernel_rfl)
    · exact zsk rfl 26 true 82 (.bool false) rfl rfl (by kernel_rfl) (by intro h; cases h) rfl
    · exact zsk rfl 26 true 82 (.bool false) rfl rfl (by kernel_rfl) (by intro h; cases h) rfl
    · exact zsk rfl 26 true 82 (.bool false) rfl rfl (by kernel_rfl) (by intro h; cases h) rfl
    · exact zsk rfl 26 true 82 (.bool false) rfl rfl (by kernel_rfl) (by intro h; cases h) rfl
    · exact zsk rfl 26 true 82 (.bool false) rfl rfl (by kernel_rfl) (by intro h; cases h) rfl
    · exact step_pick rfl trivial _ _ _ false rfl (by kernel_rfl) (by kernel_rfl)
    · exact zmv rfl trivial _ rfl (by kernel_rfl)
    · exact zsk rfl 33 true 89 (.bool false) rfl rfl (by kernel_rfl) (by intro h; cases h) rfl
    · exact zsk rfl 33 true 89 (.bool false) rfl rfl (by kernel_rfl) (by intro h; cases h) rfl
    · exact zsk rfl 33 true 89 (.bool false) rfl rfl (by kernel_rfl) (by intro h; cases h) rfl
    · exact zsk rfl 33 true 89 (.bool false) rfl rfl (by kernel_rfl) (by intro h; cases h) rfl
    · exact zsk rfl 33 true 89 (.bool false) rfl rfl (by kernel_rfl) (by intro h; cases h) rfl
    · exact step_pick rfl trivial _ _ _ false rfl (by kernel_rfl) (by kernel_rfl)
    · exact zas rfl trivial _ rfl (by kernel_rfl) (fun _ h => h)
  intro W hW
  simp only [Exit.then, finL, List.getD_cons_zero, List.getD_cons_succ, Nat.zero_add, Nat.reduceAdd, List.setIfInBounds_toArray, List.set_cons_zero, List.set_cons_succ]
  go_wp2
  go_ret
  exact ⟨by rw [hy]; exact congrArg (fun z => Ending.returned (Value.bool z)) (Eq.symm (Bool.eq_false_iff.2 (fun hE => by have hE2 := (eqEv_iff _ _).1 hE; simp [bareE] at hE2; simp at c0; omega))), hW.bl⟩
 | true =>
  cases c1 : (0 == of) with
  | false =>
    refine wp_region ?_
    refine wpOps_pure0 (fun i__ => ([(.pointer (some ⟨w.heap.size + 1, 3, none⟩)), (.int .i64 0), (.pointer (some ⟨w.heap.size, 3, none⟩)), (.int .i64 ro), (.bool true), (.bool true), (.pointer (some ⟨w.heap.size + 1, 4, none⟩)), (.int .i64 ta), (.pointer (some ⟨w.heap.size, 4, none⟩)), (.int .i64 ta), (.bool true), (.bool true), (.bool true), (.pointer (some ⟨w.heap.size + 1, 5, none⟩)), (.int .i64 0), (.pointer (some ⟨w.heap.size, 5, none⟩)), (.int .i64 of), (.bool false), (.bool false), (.bool false), undef, undef, undef, undef, undef, (.bool false), (.bool false), undef, undef, undef, undef, undef, (.bool false), (.bool false), undef, undef, undef, undef, undef, (.bool false), (.bool false)] : List Value).getD i__ undef) (fun V => JX w (w.heap.size) (w.heap.size + 1) (w.heap.size) ⟨5, nd, li, ro, ta, of, du, he, un⟩ ⟨5, nd, li, 0, ta, 0, du, 0, 0⟩ V) (by kernel_rfl) hJ3 ?_ ?_
    · refine (sqc ?_ (sqc ?_ (sqc ?_ (sqc ?_ (sqc ?_ (sqc ?_ (sqc ?_ (sqc ?_ (sqc ?_ (sqc ?_ (sqc ?_ (sqc ?_ (sqc ?_ (sqc ?_ (sqc ?_ (sqc ?_ (sqc ?_ (sqc ?_ (sqc ?_ (sqc ?_ (sqc ?_ (sqc ?_ (sqc ?_ (sqc ?_ (sqc ?_ (sqc ?_ (sqc ?_ (sqc ?_ (sqc ?_ (sqc ?_ (sqc ?_ (sqc ?_ (sqc ?_ (sqc ?_ (sqc ?_ (sqc ?_ (sqc ?_ (sqc ?_ (sqc ?_ (sqc ?_ (sqc ?_ trivial)))))))))))))))))))))))))))))))))))))))))
      · exact zfa rfl trivial _ _ _ _ rfl rfl (fun w hw => faE3 w _ _)
      · exact zld rfl trivial _ _ _ rfl rfl (fun w hw => load_in ((zca hw.tg 3).trans rfl))
      · exact zfa rfl trivial _ _ _ _ rfl rfl (fun w hw => faE3 w _ _)
      · exact zld rfl trivial _ _ _ rfl rfl (fun w hw => load_in ((zca hw.bx 3).trans rfl))
      · exact zbo rfl trivial _ _ _ _ _ _ _ rfl rfl rfl (fun w hw => by rw [← c0]; exact bin_eql _ _ _)
      · exact zmv rfl trivial _ rfl (by kernel_rfl)
      · exact zfa rfl ⟨_, rfl, by kernel_rfl⟩ _ _ _ _ rfl rfl (fun w hw => faE4 w _ _)
      · exact zld rfl ⟨_, rfl, by kernel_rfl⟩ _ _ _ rfl rfl (fun w hw => load_in ((zca hw.tg 4).trans rfl))
      · exact zfa rfl ⟨_, rfl, by kernel_rfl⟩ _ _ _ _ rfl rfl (fun w hw => faE4 w _ _)
      · exact zld rfl ⟨_, rfl, by kernel_rfl⟩ _ _ _ rfl rfl (fun w hw => load_in ((zca hw.bx 4).trans rfl))
      · exact zbo rfl ⟨_, rfl, by kernel_rfl⟩ _ _ _ _ _ _ _ rfl rfl rfl (fun w hw => (bin_eql .i64 ta ta).trans (congrArg (fun z => Result.ok (Value.bool z) w) (by simp)))
      · exact step_pick rfl trivial _ _ _ true rfl (by kernel_rfl) (by kernel_rfl)
      · exact zmv rfl trivial _ rfl (by kernel_rfl)
      · exact zfa rfl ⟨_, rfl, by kernel_rfl⟩ _ _ _ _ rfl rfl (fun w hw => faE5 w _ _)
      · exact zld rfl ⟨_, rfl, by kernel_rfl⟩ _ _ _ rfl rfl (fun w hw => load_in ((zca hw.tg 5).trans rfl))
      · exact zfa rfl ⟨_, rfl, by kernel_rfl⟩ _ _ _ _ rfl rfl (fun w hw => faE5 w _ _)
      · exact zld rfl ⟨_, rfl, by kernel_rfl⟩ _ _ _ rfl rfl (fun w hw => load_in ((zca hw.bx 5).trans rfl))
      · exact zbo rfl ⟨_, rfl, by kernel_rfl⟩ _ _ _ _ _ _ _ rfl rfl rfl (fun w hw => by rw [← c1]; exact bin_eql _ _ _)
      · exact step_pick rfl trivial _ _ _ true rfl (by kernel_rfl) (by kernel_rfl)
      · exact zmv rfl trivial _ rfl (by kernel_rfl)
      · exact zsk rfl 19 true 75 (.bool false) rfl rfl (by kernel_rfl) (by intro h; cases h) rfl
      · exact zsk rfl 19 true 75 (.bool false) rfl rfl (by kernel_rfl) (by intro h; cases h) rfl
      · exact zsk rfl 19 true 75 (.bool false) rfl rfl (by kernel_rfl) (by intro h; cases h) rfl
      · exact zsk rfl 19 true 75 (.bool false) rfl rfl (by kernel_rfl) (by intro h; cases h) rfl
      · exact zsk rfl 19 true 75 (.bool false) rfl rfl (by kernel_rfl) (by intro h; cases h) rfl
      · exact step_pick rfl trivial _ _ _ false rfl (by kernel_rfl) (by kernel_rfl)
      · exact zmv rfl trivial _ rfl (by kernel_rfl)
      · exact zsk rfl 26 true 82 (.bool false) rfl rfl (by kernel_rfl) (by intro h; cases h) rfl
      · exact zsk rfl 26 true 82 (.bool false) rfl rfl (by kernel_rfl) (by intro h; cases h) rfl
      · exact zsk rfl 26 true 82 (.bool false) rfl rfl (by kernel_rfl) (by intro h; cases h) rfl
      · exact zsk rfl 26 true 82 (.bool false) rfl rfl (by kernel_rfl) (by intro h; cases h) rfl
      · exact zsk rfl 26 true 82 (.bool false) rfl rfl (by kernel_rfl) (by intro h; cases h) rfl
      · exact step_pick rfl trivial _ _ _ false rfl (by kernel_rfl) (by kernel_rfl)
      · exact zmv rfl trivial _ rfl (by kernel_rfl)
      · exact zsk rfl 33 true 89 (.bool false) rfl rfl (by kernel_rfl) (by intro h; cases h) rfl
      · exact zsk rfl 33 true 89 (.bool false) rfl rfl (by kernel_rfl) (by intro h; cases h) rfl
      · exact zsk rfl 33 true 89 (.bool false) rfl rfl (by kernel_rfl) (by intro h; cases h) rfl
      · exact zsk rfl 33 true 89 (.bool false) rfl rfl (by kernel_rfl) (by intro h; cases h) rfl
      · exact zsk rfl 33 true 89 (.bool false) rfl rfl (by kernel_rfl) (by intro h; cases h) rfl
      · exact step_pick rfl trivial _ _ _ false rfl (by kernel_rfl) (by kernel_rfl)
      · exact zas rfl trivial _ rfl (by kernel_rfl) (fun _ h => h)
    intro W hW
    simp only [Exit.then, finL, List.getD_cons_zero, List.getD_cons_succ, Nat.zero_add, Nat.reduceAdd, List.setIfInBounds_toArray, List.set_cons_zero, List.set_cons_succ]
    go_wp2
    go_ret
    exact ⟨by rw [hy]; exact congrArg (fun z => Ending.returned (Value.bool z)) (Eq.symm (Bool.eq_false_iff.2 (fun hE => by have hE2 := (eqEv_iff _ _).1 hE; simp [bareE] at hE2; simp at c1; omega))), hW.bl⟩
  | true =>
    cases c2 : decide (0 = he) with
    | false =>
      refine wp_region ?_
      refine wpOps_pure0 (fun i__ => ([(.pointer (some ⟨w.heap.size + 1, 3, none⟩)), (.int .i64 0), (.pointer (some ⟨w.heap.size, 3, none⟩)), (.int .i64 ro), (.bool true), (.bool true), (.pointer (some ⟨w.heap.size + 1, 4, none⟩)), (.int .i64 ta), (.pointer (some ⟨w.heap.size, 4, none⟩)), (.int .i64 ta), (.bool true), (.bool true), (.bool true), (.pointer (some ⟨w.heap.size + 1, 5, none⟩)), (.int .i64 0), (.pointer (some ⟨w.heap.size, 5, none⟩)), (.int .i64 of), (.bool true), (.bool true), (.bool true), (.pointer (some ⟨w.heap.size + 1, 6, none⟩)), (.int .i64 du), (.pointer (some ⟨w.heap.size, 6, none⟩)), (.int .i64 du), (.bool true), (.bool true), (.bool true), (.pointer (some ⟨w.heap.size + 1, 7, none⟩)), (sv 0), (.pointer (some ⟨w.heap.size, 7, none⟩)), (sv he), (.bool false), (.bool false), (.bool false), undef, undef, undef, undef, undef, (.bool false), (.bool false)] : List Value).getD i__ undef) (fun V => JX w (w.heap.size) (w.heap.size + 1) (w.heap.size) ⟨5, nd, li, ro, ta, of, du, he, un⟩ ⟨5, nd, li, 0, ta, 0, du, 0, 0⟩ V) (by kernel_rfl) hJ3 ?_ ?_
      · refine (sqc ?_ (sqc ?_ (sqc ?_ (sqc ?_ (sqc ?_ (sqc ?_ (sqc ?_ (sqc ?_ (sqc ?_ (sqc ?_ (sqc ?_ (sqc ?_ (sqc ?_ (sqc ?_ (sqc ?_ (sqc ?_ (sqc ?_ (sqc ?_ (sqc ?_ (sqc ?_ (sqc ?_ (sqc ?_ (sqc ?_ (sqc ?_ (sqc ?_ (sqc ?_ (sqc ?_ (sqc ?_ (sqc ?_ (sqc ?_ (sqc ?_ (sqc ?_ (sqc ?_ (sqc ?_ (sqc ?_ (sqc ?_ (sqc ?_ (sqc ?_ (sqc ?_ (sqc ?_ (sqc ?_ trivial)))))))))))))))))))))))))))))))))))))))))
        · exact zfa rfl trivial _ _ _ _ rfl rfl (fun w hw => faE3 w _ _)
        · exact zld rfl trivial _ _ _ rfl rfl (fun w hw => load_in ((zca hw.tg 3).trans rfl))
        · exact zfa rfl trivial _ _ _ _ rfl rfl (fun w hw => faE3 w _ _)
        · exact zld rfl trivial _ _ _ rfl rfl (fun w hw => load_in ((zca hw.bx 3).trans rfl))
        · exact zbo rfl trivial _ _ _ _ _ _ _ rfl rfl rfl (fun w hw => by rw [← c0]; exact bin_eql _ _ _)
        · exact zmv rfl trivial _ rfl (by kernel_rfl)
        · exact zfa rfl ⟨_, rfl, by kernel_rfl⟩ _ _ _ _ rfl rfl (fun w hw => faE4 w _ _)
        · exact zld rfl ⟨_, rfl, by kernel_rfl⟩ _ _ _ rfl rfl (fun w hw => load_in ((zca hw.tg 4).trans rfl))
        · exact zfa rfl ⟨_, rfl, by kernel_rfl⟩ _ _ _ _ rfl rfl (fun w hw => faE4 w _ _)
        · exact zld rfl ⟨_, rfl, by kernel_rfl⟩ _ _ _ rfl rfl (fun w hw => load_in ((zca hw.bx 4).trans rfl))
        · exact zbo rfl ⟨_, rfl, by kernel_rfl⟩ _ _ _ _ _ _ _ rfl rfl rfl (fun w hw => (bin_eql .i64 ta ta).trans (congrArg (fun z => Result.ok (Value.bool z) w) (by simp)))
        · exact step_pick rfl trivial _ _ _ true rfl (by kernel_rfl) (by kernel_rfl)
        · exact zmv rfl trivial _ rfl (by kernel_rfl)
        · exact zfa rfl ⟨_, rfl, by kernel_rfl⟩ _ _ _ _ rfl rfl (fun w hw => faE5 w _ _)
        · exact zld rfl ⟨_, rfl, by kernel_rfl⟩ _ _ _ rfl rfl (fun w hw => load_in ((zca hw.tg 5).trans rfl))
        · exact zfa rfl ⟨_, rfl, by kernel_rfl⟩ _ _ _ _ rfl rfl (fun w hw => faE5 w _ _)
        · exact zld rfl ⟨_, rfl, by kernel_rfl⟩ _ _ _ rfl rfl (fun w hw => load_in ((zca hw.bx 5).trans rfl))
        · exact zbo rfl ⟨_, rfl, by kernel_rfl⟩ _ _ _ _ _ _ _ rfl rfl rfl (fun w hw => by rw [← c1]; exact bin_eql _ _ _)
        · exact step_pick rfl trivial _ _ _ true rfl (by kernel_rfl) (by kernel_rfl)
        · exact zmv rfl trivial _ rfl (by kernel_rfl)
        · exact zfa rfl ⟨_, rfl, by kernel_rfl⟩ _ _ _ _ rfl rfl (fun w hw => faE6 w _ _)
        · exact zld rfl ⟨_, rfl, by kernel_rfl⟩ _ _ _ rfl rfl (fun w hw => load_in ((zca hw.tg 6).trans rfl))
        · exact zfa rfl ⟨_, rfl, by kernel_rfl⟩ _ _ _ _ rfl rfl (fun w hw => faE6 w _ _)
        · exact zld rfl ⟨_, rfl, by kernel_rfl⟩ _ _ _ rfl rfl (fun w hw => load_in ((zca hw.bx 6).trans rfl))
        · exact zbo rfl ⟨_, rfl, by kernel_rfl⟩ _ _ _ _ _ _ _ rfl rfl rfl (fun w hw => (bin_eql .i64 du du).trans (congrArg (fun z => Result.ok (Value.bool z) w) (by simp)))
        · exact step_pick rfl trivial _ _ _ true rfl (by kernel_rfl) (by kernel_rfl)
        · exact zmv rfl trivial _ rfl (by kernel_rfl)
        · exact zfa rfl ⟨_, rfl, by kernel_rfl⟩ _ _ _ _ rfl rfl (fun w hw => faE7 w _ _)
        · exact zld rfl ⟨_, rfl, by kernel_rfl⟩ _ _ _ rfl rfl (fun w hw => load_se (N := 0) ((zca hw.tg 7).trans rfl) ((zca hw.tg 8).trans rfl) ((zca hw.tg 9).trans rfl) ((zca hw.tg 10).trans rfl))
        · exact zfa rfl ⟨_, rfl, by kernel_rfl⟩ _ _ _ _ rfl rfl (fun w hw => faE7 w _ _)
        · exact zld rfl ⟨_, rfl, by kernel_rfl⟩ _ _ _ rfl rfl (fun w hw => load_se (N := he) ((zca hw.bx 7).trans rfl) ((zca hw.bx 8).trans rfl) ((zca hw.bx 9).trans rfl) ((zca hw.bx 10).trans rfl))
        · exact zbo rfl ⟨_, rfl, by kernel_rfl⟩ _ _ _ _ _ _ _ rfl rfl rfl (fun w hw => by rw [← c2]; exact eql4 _ _ 0 he s0lt hhe w)
        · exact step_pick rfl trivial _ _ _ true rfl (by kernel_rfl) (by kernel_rfl)
        · exact zmv rfl trivial _ rfl (by kernel_rfl)
        · exact zsk rfl 33 true 89 (.bool false) rfl rfl (by kernel_rfl) (by intro h; cases h) rfl
        · exact zsk rfl 33 true 89 (.bool false) rfl rfl (by kernel_rfl) (by intro h; cases h) rfl
        · exact zsk rfl 33 true 89 (.bool false) rfl rfl (by kernel_rfl) (by intro h; cases h) rfl
        · exact zsk rfl 33 true 89 (.bool false) rfl rfl (by kernel_rfl) (by intro h; cases h) rfl
        · exact zsk rfl 33 true 89 (.bool false) rfl rfl (by kernel_rfl) (by intro h; cases h) rfl
        · exact step_pick rfl trivial _ _ _ false rfl (by kernel_rfl) (by kernel_rfl)
        · exact zas rfl trivial _ rfl (by kernel_rfl) (fun _ h => h)
      intro W hW
      simp only [Exit.then, finL, List.getD_cons_zero, List.getD_cons_succ, Nat.zero_add, Nat.reduceAdd, List.setIfInBounds_toArray, List.set_cons_zero, List.set_cons_succ]
      go_wp2
      go_ret
      exact ⟨by rw [hy]; exact congrArg (fun z => Ending.returned (Value.bool z)) (Eq.symm (Bool.eq_false_iff.2 (fun hE => by have hE2 := (eqEv_iff _ _).1 hE; simp [bareE] at hE2; simp at c2; omega))), hW.bl⟩
    | true =>
      cases c3 : decide (0 = un) with
      | false =>
        refine wp_region ?_
        refine wpOps_pure0 (fun i__ => ([(.pointer (some ⟨w.heap.size + 1, 3, none⟩)), (.int .i64 0), (.pointer (some ⟨w.heap.size, 3, none⟩)), (.int .i64 ro), (.bool true), (.bool true), (.pointer (some ⟨w.heap.size + 1, 4, none⟩)), (.int .i64 ta), (.pointer (some ⟨w.heap.size, 4, none⟩)), (.int .i64 ta), (.bool true), (.bool true), (.bool true), (.pointer (some ⟨w.heap.size + 1, 5, none⟩)), (.int .i64 0), (.pointer (some ⟨w.heap.size, 5, none⟩)), (.int .i64 of), (.bool true), (.bool true), (.bool true), (.pointer (some ⟨w.heap.size + 1, 6, none⟩)), (.int .i64 du), (.pointer (some ⟨w.heap.size, 6, none⟩)), (.int .i64 du), (.bool true), (.bool true), (.bool true), (.pointer (some ⟨w.heap.size + 1, 7, none⟩)), (sv 0), (.pointer (some ⟨w.heap.size, 7, none⟩)), (sv he), (.bool true), (.bool true), (.bool true), (.pointer (some ⟨w.heap.size + 1, 11, none⟩)), (sv 0), (.pointer (some ⟨w.heap.size, 11, none⟩)), (sv un), (.bool false), (.bool false), (.bool false)] : List Value).getD i__ undef) (fun V => JX w (w.heap.size) (w.heap.size + 1) (w.heap.size) ⟨5, nd, li, ro, ta, of, du, he, un⟩ ⟨5, nd, li, 0, ta, 0, du, 0, 0⟩ V) (by kernel_rfl) hJ3 ?_ ?_
        · refine (sqc ?_ (sqc ?_ (sqc ?_ (sqc ?_ (sqc ?_ (sqc ?_ (sqc ?_ (sqc ?_ (sqc ?_ (sqc ?_ (sqc ?_ (sqc ?_ (sqc ?_ (sqc ?_ (sqc ?_ (sqc ?_ (sqc ?_ (sqc ?_ (sqc ?_ (sqc ?_ (sqc ?_ (sqc ?_ (sqc ?_ (sqc ?_ (sqc ?_ (sqc ?_ (sqc ?_ (sqc ?_ (sqc ?_ (sqc ?_ (sqc ?_ (sqc ?_ (sqc ?_ (sqc ?_ (sqc ?_ (sqc ?_ (sqc ?_ (sqc ?_ (sqc ?_ (sqc ?_ (sqc ?_ trivial)))))))))))))))))))))))))))))))))))))))))
          · exact zfa rfl trivial _ _ _ _ rfl rfl (fun w hw => faE3 w _ _)
          · exact zld rfl trivial _ _ _ rfl rfl (fun w hw => load_in ((zca hw.tg 3).trans rfl))
          · exact zfa rfl trivial _ _ _ _ rfl rfl (fun w hw => faE3 w _ _)
          · exact zld rfl trivial _ _ _ rfl rfl (fun w hw => load_in ((zca hw.bx 3).trans rfl))
          · exact zbo rfl trivial _ _ _ _ _ _ _ rfl rfl rfl (fun w hw => by rw [← c0]; exact bin_eql _ _ _)
          · exact zmv rfl trivial _ rfl (by kernel_rfl)
          · exact zfa rfl ⟨_, rfl, by kernel_rfl⟩ _ _ _ _ rfl rfl (fun w hw => faE4 w _ _)
          · exact zld rfl ⟨_, rfl, by kernel_rfl⟩ _ _ _ rfl rfl (fun w hw => load_in ((zca hw.tg 4).trans rfl))
          · exact zfa rfl ⟨_, rfl, by kernel_rfl⟩ _ _ _ _ rfl rfl (fun w hw => faE4 w _ _)
          · exact zld rfl ⟨_, rfl, by kernel_rfl⟩ _ _ _ rfl rfl (fun w hw => load_in ((zca hw.bx 4).trans rfl))
          · exact zbo rfl ⟨_, rfl, by kernel_rfl⟩ _ _ _ _ _ _ _ rfl rfl rfl (fun w hw => (bin_eql .i64 ta ta).trans (congrArg (fun z => Result.ok (Value.bool z) w) (by simp)))
          · exact step_pick rfl trivial _ _ _ true rfl (by kernel_rfl) (by kernel_rfl)
          · exact zmv rfl trivial _ rfl (by kernel_rfl)
          · exact zfa rfl ⟨_, rfl, by kernel_rfl⟩ _ _ _ _ rfl rfl (fun w hw => faE5 w _ _)
          · exact zld rfl ⟨_, rfl, by kernel_rfl⟩ _ _ _ rfl rfl (fun w hw => load_in ((zca hw.tg 5).trans rfl))
          · exact zfa rfl ⟨_, rfl, by kernel_rfl⟩ _ _ _ _ rfl rfl (fun w hw => faE5 w _ _)
          · exact zld rfl ⟨_, rfl, by kernel_rfl⟩ _ _ _ rfl rfl (fun w hw => load_in ((zca hw.bx 5).trans rfl))
          · exact zbo rfl ⟨_, rfl, by kernel_rfl⟩ _ _ _ _ _ _ _ rfl rfl rfl (fun w hw => by rw [← c1]; exact bin_eql _ _ _)
          · exact step_pick rfl trivial _ _ _ true rfl (by kernel_rfl) (by kernel_rfl)
          · exact zmv rfl trivial _ rfl (by kernel_rfl)
          · exact zfa rfl ⟨_, rfl, by kernel_rfl⟩ _ _ _ _ rfl rfl (fun w hw => faE6 w _ _)
          · exact zld rfl ⟨_, rfl, by kernel_rfl⟩ _ _ _ rfl rfl (fun w hw => load_in ((zca hw.tg 6).trans rfl))
          · exact zfa rfl ⟨_, rfl, by kernel_rfl⟩ _ _ _ _ rfl rfl (fun w hw => faE6 w _ _)
          · exact zld rfl ⟨_, rfl, by kernel_rfl⟩ _ _ _ rfl rfl (fun w hw => load_in ((zca hw.bx 6).trans rfl))
          · exact zbo rfl ⟨_, rfl, by kernel_rfl⟩ _ _ _ _ _ _ _ rfl rfl rfl (fun w hw => (bin_eql .i64 du du).trans (congrArg (fun z => Result.ok (Value.bool z) w) (by simp)))
          · exact step_pick rfl trivial _ _ _ true rfl (by kernel_rfl) (by kernel_rfl)
          · exact zmv rfl trivial _ rfl (by kernel_rfl)
          · exact zfa rfl ⟨_, rfl, by kernel_rfl⟩ _ _ _ _ rfl rfl (fun w hw => faE7 w _ _)
          · exact zld rfl ⟨_, rfl, by kernel_rfl⟩ _ _ _ rfl rfl (fun w hw => load_se (N := 0) ((zca hw.tg 7).trans rfl) ((zca hw.tg 8).trans rfl) ((zca hw.tg 9).trans rfl) ((zca hw.tg 10).trans rfl))
          · exact zfa rfl ⟨_, rfl, by kernel_rfl⟩ _ _ _ _ rfl rfl (fun w hw => faE7 w _ _)
          · exact zld rfl ⟨_, rfl, by kernel_rfl⟩ _ _ _ rfl rfl (fun w hw => load_se (N := he) ((zca hw.bx 7).trans rfl) ((zca hw.bx 8).trans rfl) ((zca hw.bx 9).trans rfl) ((zca hw.bx 10).trans rfl))
          · exact zbo rfl ⟨_, rfl, by kernel_rfl⟩ _ _ _ _ _ _ _ rfl rfl rfl (fun w hw => by rw [← c2]; exact eql4 _ _ 0 he s0lt hhe w)
          · exact step_pick rfl trivial _ _ _ true rfl (by kernel_rfl) (by kernel_rfl)
          · exact zmv rfl trivial _ rfl (by kernel_rfl)
          · exact zfa rfl ⟨_, rfl, by kernel_rfl⟩ _ _ _ _ rfl rfl (fun w hw => faE8 w _ _)
          · exact zld rfl ⟨_, rfl, by kernel_rfl⟩ _ _ _ rfl rfl (fun w hw => load_se (N := 0) ((zca hw.tg 11).trans rfl) ((zca hw.tg 12).trans rfl) ((zca hw.tg 13).trans rfl) ((zca hw.tg 14).trans rfl))
          · exact zfa rfl ⟨_, rfl, by kernel_rfl⟩ _ _ _ _ rfl rfl (fun w hw => faE8 w _ _)
          · exact zld rfl ⟨_, rfl, by kernel_rfl⟩ _ _ _ rfl rfl (fun w hw => load_se (N := un) ((zca hw.bx 11).trans rfl) ((zca hw.bx 12).trans rfl) ((zca hw.bx 13).trans rfl) ((zca hw.bx 14).trans rfl))
          · exact zbo rfl ⟨_, rfl, by kernel_rfl⟩ _ _ _ _ _ _ _ rfl rfl rfl (fun w hw => by rw [← c3]; exact eql4 _ _ 0 un s0lt hun w)
          · exact step_pick rfl trivial _ _ _ true rfl (by kernel_rfl) (by kernel_rfl)
          · exact zas rfl trivial _ rfl (by kernel_rfl) (fun _ h => h)
        intro W hW
        simp only [Exit.then, finL, List.getD_cons_zero, List.getD_cons_succ, Nat.zero_add, Nat.reduceAdd, List.setIfInBounds_toArray, List.set_cons_zero, List.set_cons_succ]
        go_wp2
        go_ret
        exact ⟨by rw [hy]; exact congrArg (fun z => Ending.returned (Value.bool z)) (Eq.symm (Bool.eq_false_iff.2 (fun hE => by have hE2 := (eqEv_iff _ _).1 hE; simp [bareE] at hE2; simp at c3; omega))), hW.bl⟩
      | true =>
        refine wp_region ?_
        refine wpOps_pure0 (fun i__ => ([(.pointer (some ⟨w.heap.size + 1, 3, none⟩)), (.int .i64 0), (.pointer (some ⟨w.heap.size, 3, none⟩)), (.int .i64 ro), (.bool true), (.bool true), (.pointer (some ⟨w.heap.size + 1, 4, none⟩)), (.int .i64 ta), (.pointer (some ⟨w.heap.size, 4, none⟩)), (.int .i64 ta), (.bool true), (.bool true), (.bool true), (.pointer (some ⟨w.heap.size + 1, 5, none⟩)), (.int .i64 0), (.pointer (some ⟨w.heap.size, 5, none⟩)), (.int .i64 of), (.bool true), (.bool true), (.bool true), (.pointer (some ⟨w.heap.size + 1, 6, none⟩)), (.int .i64 du), (.pointer (some ⟨w.heap.size, 6, none⟩)), (.int .i64 du), (.bool true), (.bool true), (.bool true), (.pointer (some ⟨w.heap.size + 1, 7, none⟩)), (sv 0), (.pointer (some ⟨w.heap.size, 7, none⟩)), (sv he), (.bool true), (.bool true), (.bool true), (.pointer (some ⟨w.heap.size + 1, 11, none⟩)), (sv 0), (.pointer (some ⟨w.heap.size, 11, none⟩)), (sv un), (.bool true), (.bool true), (.bool true)] : List Value).getD i__ undef) (fun V => JX w (w.heap.size) (w.heap.size + 1) (w.heap.size) ⟨5, nd, li, ro, ta, of, du, he, un⟩ ⟨5, nd, li, 0, ta, 0, du, 0, 0⟩ V) (by kernel_rfl) hJ3 ?_ ?_
        · refine (sqc ?_ (sqc ?_ (sqc ?_ (sqc ?_ (sqc ?_ (sqc ?_ (sqc ?_ (sqc ?_ (sqc ?_ (sqc ?_ (sqc ?_ (sqc ?_ (sqc ?_ (sqc ?_ (sqc ?_ (sqc ?_ (sqc ?_ (sqc ?_ (sqc ?_ (sqc ?_ (sqc ?_ (sqc ?_ (sqc ?_ (sqc ?_ (sqc ?_ (sqc ?_ (sqc ?_ (sqc ?_ (sqc ?_ (sqc ?_ (sqc ?_ (sqc ?_ (sqc ?_ (sqc ?_ (sqc ?_ (sqc ?_ (sqc ?_ (sqc ?_ (sqc ?_ (sqc ?_ (sqc ?_ trivial)))))))))))))))))))))))))))))))))))))))))
          · exact zfa rfl trivial _ _ _ _ rfl rfl (fun w hw => faE3 w _ _)
          · exact zld rfl trivial _ _ _ rfl rfl (fun w hw => load_in ((zca hw.tg 3).trans rfl))
          · exact zfa rfl trivial _ _ _ _ rfl rfl (fun w hw => faE3 w _ _)
          · exact zld rfl trivial _ _ _ rfl rfl (fun w hw => load_in ((zca hw.bx 3).trans rfl))
          · exact zbo rfl trivial _ _ _ _ _ _ _ rfl rfl rfl (fun w hw => by rw [← c0]; exact bin_eql _ _ _)
          · exact zmv rfl trivial _ rfl (by kernel_rfl)
          · exact zfa rfl ⟨_, rfl, by kernel_rfl⟩ _ _ _ _ rfl rfl (fun w hw => faE4 w _ _)
          · exact zld rfl ⟨_, rfl, by kernel_rfl⟩ _ _ _ rfl rfl (fun w hw => load_in ((zca hw.tg 4).trans rfl))
          · exact zfa rfl ⟨_, rfl, by kernel_rfl⟩ _ _ _ _ rfl rfl (fun w hw => faE4 w _ _)
          · exact zld rfl ⟨_, rfl, by kernel_rfl⟩ _ _ _ rfl rfl (fun w hw => load_in ((zca hw.bx 4).trans rfl))
          · exact zbo rfl ⟨_, rfl, by kernel_rfl⟩ _ _ _ _ _ _ _ rfl rfl rfl (fun w hw => (bin_eql .i64 ta ta).trans (congrArg (fun z => Result.ok (Value.bool z) w) (by simp)))
          · exact step_pick rfl trivial _ _ _ true rfl (by kernel_rfl) (by kernel_rfl)
          · exact zmv rfl trivial _ rfl (by kernel_rfl)
          · exact zfa rfl ⟨_, rfl, by kernel_rfl⟩ _ _ _ _ rfl rfl (fun w hw => faE5 w _ _)
          · exact zld rfl ⟨_, rfl, by kernel_rfl⟩ _ _ _ rfl rfl (fun w hw => load_in ((zca hw.tg 5).trans rfl))
          · exact zfa rfl ⟨_, rfl, by kernel_rfl⟩ _ _ _ _ rfl rfl (fun w hw => faE5 w _ _)
          · exact zld rfl ⟨_, rfl, by kernel_rfl⟩ _ _ _ rfl rfl (fun w hw => load_in ((zca hw.bx 5).trans rfl))
          · exact zbo rfl ⟨_, rfl, by kernel_rfl⟩ _ _ _ _ _ _ _ rfl rfl rfl (fun w hw => by rw [← c1]; exact bin_eql _ _ _)
          · exact step_pick rfl trivial _ _ _ true rfl (by kernel_rfl) (by kernel_rfl)
          · exact zmv rfl trivial _ rfl (by kernel_rfl)
          · exact zfa rfl ⟨_, rfl, by kernel_rfl⟩ _ _ _ _ rfl rfl (fun w hw => faE6 w _ _)
          · exact zld rfl ⟨_, rfl, by kernel_rfl⟩ _ _ _ rfl rfl (fun w hw => load_in ((zca hw.tg 6).trans rfl))
          · exact zfa rfl ⟨_, rfl, by kernel_rfl⟩ _ _ _ _ rfl rfl (fun w hw => faE6 w _ _)
          · exact zld rfl ⟨_, rfl, by kernel_rfl⟩ _ _ _ rfl rfl (fun w hw => load_in ((zca hw.bx 6).trans rfl))
          · exact zbo rfl ⟨_, rfl, by kernel_rfl⟩ _ _ _ _ _ _ _ rfl rfl rfl (fun w hw => (bin_eql .i64 du du).trans (congrArg (fun z => Result.ok (Value.bool z) w) (by simp)))
          · exact step_pick rfl trivial _ _ _ true rfl (by kernel_rfl) (by kernel_rfl)
          · exact zmv rfl trivial _ rfl (by kernel_rfl)
          · exact zfa rfl ⟨_, rfl, by kernel_rfl⟩ _ _ _ _ rfl rfl (fun w hw => faE7 w _ _)
          · exact zld rfl ⟨_, rfl, by kernel_rfl⟩ _ _ _ rfl rfl (fun w hw => load_se (N := 0) ((zca hw.tg 7).trans rfl) ((zca hw.tg 8).trans rfl) ((zca hw.tg 9).trans rfl) ((zca hw.tg 10).trans rfl))
          · exact zfa rfl ⟨_, rfl, by kernel_rfl⟩ _ _ _ _ rfl rfl (fun w hw => faE7 w _ _)
          · exact zld rfl ⟨_, rfl, by kernel_rfl⟩ _ _ _ rfl rfl (fun w hw => load_se (N := he) ((zca hw.bx 7).trans rfl) ((zca hw.bx 8).trans rfl) ((zca hw.bx 9).trans rfl) ((zca hw.bx 10).trans rfl))
          · exact zbo rfl ⟨_, rfl, by kernel_rfl⟩ _ _ _ _ _ _ _ rfl rfl rfl (fun w hw => by rw [← c2]; exact eql4 _ _ 0 he s0lt hhe w)
          · exact step_pick rfl trivial _ _ _ true rfl (by kernel_rfl) (by kernel_rfl)
          · exact zmv rfl trivial _ rfl (by kernel_rfl)
          · exact zfa rfl ⟨_, rfl, by kernel_rfl⟩ _ _ _ _ rfl rfl (fun w hw => faE8 w _ _)
          · exact zld rfl ⟨_, rfl, by kernel_rfl⟩ _ _ _ rfl rfl (fun w hw => load_se (N := 0) ((zca hw.tg 11).trans rfl) ((zca hw.tg 12).trans rfl) ((zca hw.tg 13).trans rfl) ((zca hw.tg 14).trans rfl))
          · exact zfa rfl ⟨_, rfl, by kernel_rfl⟩ _ _ _ _ rfl rfl (fun w hw => faE8 w _ _)
          · exact zld rfl ⟨_, rfl, by kernel_rfl⟩ _ _ _ rfl rfl (fun w hw => load_se (N := un) ((zca hw.bx 11).trans rfl) ((zca hw.bx 12).trans rfl) ((zca hw.bx 13).trans rfl) ((zca hw.bx 14).trans rfl))
          · exact zbo rfl ⟨_, rfl, by kernel_rfl⟩ _ _ _ _ _ _ _ rfl rfl rfl (fun w hw => by rw [← c3]; exact eql4 _ _ 0 un s0lt hun w)
          · exact step_pick rfl trivial _ _ _ true rfl (by kernel_rfl) (by kernel_rfl)
          · exact zas rfl trivial _ rfl (by kernel_rfl) (fun _ h => h)
        intro W hW
        simp only [Exit.then, finL, List.getD_cons_zero, List.getD_cons_succ, Nat.zero_add, Nat.reduceAdd, List.setIfInBounds_toArray, List.set_cons_zero, List.set_cons_succ]
        go_wp2
        go_ret
        exact ⟨by rw [hy]; exact congrArg (fun z => Ending.returned (Value.bool z)) (Eq.symm ((eqEv_iff _ _).2 (by simp at c0 c1 c2 c3; simp [bareE]; omega))), hW.bl⟩
theorem rbare_0 (k : Int) (k1 : ¬ k = 1) (k2 : ¬ k = 2) (k3 : ¬ k = 3) (k4 : ¬ k = 4) (k5 : ¬ k = 5) (nd li ro ta of du : Int) (he un : Nat) (hhe : he < S128) (hun : un < S128) (w : World) : Calls Try.prog 17 #[evV ⟨k, nd, li, ro, ta, of, du, he, un⟩] w fun e w' => e = .returned (.bool (eqEv ⟨k, nd, li, ro, ta, of, du, he, un⟩ (bareE ⟨k, nd, li, ro, ta, of, du, he, un⟩))) ∧ Below w.heap.size w w' := by
 have hmx : Try.prog.follows .mixedOrders = true := by kernel_rfl
 have hJ0 : JX w (w.heap.size) (w.heap.size + 1) (w.heap.size) ⟨k, nd, li, ro, ta, of, du, he, un⟩ ⟨k, nd, li, 0, 0, 0, 0, 0, 0⟩ ((w.alloc (.cells (ecA ⟨k, nd, li, ro, ta, of, du, he, un⟩) 34)).alloc (.cells (ecA ⟨k, nd, li, 0, 0, 0, 0, 0, 0⟩) 34)) := ⟨zoa (zna rfl), zna (by simp), .inl rfl, ((Below.refl _ w).alloc (Nat.le_refl _) _).alloc (by simp) _, by omega, by omega, by omega⟩
 simp only [ecA, wdz] at hJ0
 obtain ⟨y, hy⟩ : ∃ y, y = Value.bool (eqEv ⟨k, nd, li, ro, ta, of, du, he, un⟩ (bareE ⟨k, nd, li, ro, ta, of, du, he, un⟩)) := ⟨_, rfl⟩
 rw [← hy]
 unfold evV ecA
 go_enter Try.func17, Try.ntmps17
 have hJ3 := hJ0
 clear hJ0
 go_upto_region 13 with fail
 cases c0 : (0 == ro) with
 | false =>
  refine wp_region ?_
  refine wpOps_pure0 (fun i__ => ([(.pointer (some ⟨w.heap.size + 1, 3, none⟩)), (.int .i64 0), (.pointer (some ⟨w.heap.size, 3, none⟩)), (.int .i64 ro), (.bool false), (.bool false), undef, undef, undef, undef, undef, (.bool false), (.bool false), undef, undef, undef, undef, undef, (.bool false), (.bool false), undef, undef, undef, undef, undef, (.bool false), (.bool false), undef, undef, undef, undef, undef, (.bool false), (.bool false), undef, undef, undef, undef, undef, (.bool false), (.bool false)] : List Value).getD i__ undef) (fun V => JX w (w.heap.size) (w.heap.size + 1) (w.heap.size) ⟨k, nd, li, ro, ta, of, du, he, un⟩ ⟨k, nd, li, 0, 0, 0, 0, 0, 0⟩ V) (by kernel_rfl) hJ3 ?_ ?_
  · refine (sqc ?_ (sqc ?_ (sqc ?_ (sqc ?_ (sqc ?_ (sqc ?_ (sqc ?_ (sqc ?_ (sqc ?_ (sqc ?_ (sqc ?_ (sqc ?_ (sqc ?_ (sqc ?_ (sqc ?_ (sqc ?_ (sqc ?_ (sqc ?_ (sqc ?_ (sqc ?_ (sqc ?_ (sqc ?_ (sqc ?_ (sqc ?_ (sqc ?_ (sqc ?_ (sqc ?_ (sqc ?_ (sqc ?_ (sqc ?_ (sqc ?_ (sqc ?_ (sqc ?_ (sqc ?_ (sqc ?_ (sqc ?_ (sqc ?_ (sqc ?_ (sqc ?_ (sqc ?_ (sqc ?_ trivial)))))))))))))))))))))))))))))))))))))))))
    · exact zfa rfl trivial _ _ _ _ rfl rfl (fun w hw => faE3 w _ _)
    · exact zld rfl trivial _ _ _ rfl rfl (fun w hw => load_in ((zca hw.tg 3).trans rfl))
    · exact zfa rfl trivial _ _ _ _ rfl rfl (fun w hw => faE3 w _ _)
    · exact zld rfl trivial _ _ _ rfl rfl (fun w hw => load_in ((zca hw.bx 3).trans rfl))
    · exact zbo rfl trivial _ _ _ _ _ _ _ rfl rfl rfl (fun w hw => by rw [← c0]; exact bin_eql _ _ _)
    · exact zmv rfl trivial _ rfl (by kernel_rfl)
    · exact zsk rfl 5 true 61 (.bool false) rfl rfl (by kernel_rfl) (by intro h; cases h) rfl
    · exact zsk rfl 5 true 61 (.bool false) rfl rfl (by kernel_rfl) (by intro h; cases h) rfl
    · exact zsk rfl 5 true 61 (.bool false) rfl rfl (by kernel_rfl) (by intro h; cases h) rfl
    · exact zsk rfl 5 true 61 (.bool false) rfl rfl (by kernel_rfl) (by intro h; cases h) rfl
    · exact zsk rfl 5 true 61 (.bool false) rfl rfl (by kernel_rfl) (by intro h; cases h) rfl
    · exact step_pick rfl trivial _ _ _ false rfl (by kernel_rfl) (by kernel_rfl)
    · exact zmv rfl trivial _ rfl (by kernel_rfl)
    · exact zsk rfl 12 true 68 (.bool false) rfl rfl (by kernel_rfl) (by intro h; cases h) rfl
    · exact zsk rfl 12 true 68 (.bool false) rfl rfl (by kernel_rfl) (by intro h; cases h) rfl
    · exact zsk rfl 12 true 68 (.bool false) rfl rfl (by kernel_rfl) (by intro h; cases h) rfl
    · exact zsk rfl 12 true 68 (.bool false) rfl rfl (by kernel_rfl) (by intro h; cases h) rfl
    · exact zsk rfl 12 true 68 (.bool false) rfl rfl (by kernel_rfl) (by intro h; cases h) rfl
    · exact step_pick rfl trivial _ _ _ false rfl (by kernel_rfl) (by kernel_rfl)
    · exact zmv rfl trivial _ rfl (by kernel_rfl)
    · exact zsk rfl 19 true 75 (.bool false) rfl rfl (by kernel_rfl) (by intro h; cases h) rfl
    · exact zsk rfl 19 true 75 (.bool false) rfl rfl (by kernel_rfl) (by intro h; cases h) rfl
    · exact zsk rfl 19 true 75 (.bool false) rfl rfl (by kernel_rfl) (by intro h; cases h) rfl
    · exact zsk rfl 19 true 75 (.bool false) rfl rfl (by kernel_rfl) (by intro h; cases h) rfl
    · exact zsk rfl 19 true 75 (.bool false) rfl rfl (by kernel_rfl) (by intro h; cases h) rfl
    · exact step_pick rfl trivial _ _ _ false rfl (by kernel_rfl) (by kernel_rfl)
    · exact zmv rfl trivial _ rfl (by kernel_rfl)
    · exact zsk rfl 26 true 82 (.bool false) rfl rfl (by kernel_rfl) (by intro h; cases h) rfl
    · exact zsk rfl 26 true 82 (.bool false) rfl rfl (by kernel_rfl) (by intro h; cases h) rfl
    · exact zsk rfl 26 true 82 (.bool false) rfl rfl (by kernel_rfl) (by intro h; cases h) rfl
    · exact zsk rfl 26 true 82 (.bool false) rfl rfl (by kernel_rfl) (by intro h; cases h) rfl
    · exact zsk rfl 26 true 82 (.bool false) rfl rfl (by kernel_rfl) (by intro h; cases h) rfl
    · exact step_pick rfl trivial _ _ _ false rfl (by kernel_rfl) (by kernel_rfl)
    · exact zmv rfl trivial _ rfl (by kernel_rfl)
    · exact zsk rfl 33 true 89 (.bool false) rfl rfl (by kernel_rfl) (by intro h; cases h) rfl
    · exact zsk rfl 33 true 89 (.bool false) rfl rfl (by kernel_rfl) (by intro h; cases h) rfl
    · exact zsk rfl 33 true 89 (.bool false) rfl rfl (by kernel_rfl) (by intro h; cases h) rfl
    · exact zsk rfl 33 true 89 (.bool false) rfl rfl (by kernel_rfl) (by intro h; cases h) rfl
    · exact zsk rfl 33 true 89 (.bool false) rfl rfl (by kernel_rfl) (by intro h; cases h) rfl
    · exact step_pick rfl trivial _ _ _ false rfl (by kernel_rfl) (by kernel_rfl)
    · exact zas rfl trivial _ rfl (by kernel_rfl) (fun _ h => h)
  intro W hW
  simp only [Exit.then, finL, List.getD_cons_zero, List.getD_cons_succ, Nat.zero_add, Nat.reduceAdd, List.setIfInBounds_toArray, List.set_cons_zero, List.set_cons_succ]
  go_wp2
  go_ret
  exact ⟨by rw [hy]; exact congrArg (fun z => Ending.returned (Value.bool z)) (Eq.symm (Bool.eq_false_iff.2 (fun hE => by have hE2 := (eqEv_iff _ _).1 hE; simp [bareE, k1, k2, k3, k4, k5] at hE2; simp at c0; omega))), hW.bl⟩
 | true =>
  cases c1 : (0 == ta) with
  | false =>
    refine wp_region ?_
    refine wpOps_pure0 (fun i__ => ([(.pointer (some ⟨w.heap.size + 1, 3, none⟩)), (.int .i64 0), (.pointer (some ⟨w.heap.size, 3, none⟩)), (.int .i64 ro), (.bool true), (.bool true), (.pointer (some ⟨w.heap.size + 1, 4, none⟩)), (.int .i64 0), (.pointer (some ⟨w.heap.size, 4, none⟩)), (.int .i64 ta), (.bool false), (.bool false), (.bool false), undef, undef, undef, undef, undef, (.bool false), (.bool false), undef, undef, undef, undef, undef, (.bool false), (.bool false), undef, undef, undef, undef, undef, (.bool false), (.bool false), undef, undef, undef, undef, undef, (.bool false), (.bool false)] : List Value).getD i__ undef) (fun V => JX w (w.heap.size) (w.heap.size + 1) (w.heap.size) ⟨k, nd, li, ro, ta, of, du, he, un⟩ ⟨k, nd, li, 0, 0, 0, 0, 0, 0⟩ V) (by kernel_rfl) hJ3 ?_ ?_
    · refine (sqc ?_ (sqc ?_ (sqc ?_ (sqc ?_ (sqc ?_ (sqc ?_ (sqc ?_ (sqc ?_ (sqc ?_ (sqc ?_ (sqc ?_ (sqc ?_ (sqc ?_ (sqc ?_ (sqc ?_ (sqc ?_ (sqc ?_ (sqc ?_ (sqc ?_ (sqc ?_ (sqc ?_ (sqc ?_ (sqc ?_ (sqc ?_ (sqc ?_ (sqc ?_ (sqc ?_ (sqc ?_ (sqc ?_ (sqc ?_ (sqc ?_ (sqc ?_ (sqc ?_ (sqc ?_ (sqc ?_ (sqc ?_ (sqc ?_ (sqc ?_ (sqc ?_ (sqc ?_ (sqc ?_ trivial)))))))))))))))))))))))))))))))))))))))))
      · exact zfa rfl trivial _ _ _ _ rfl rfl (fun w hw => faE3 w _ _)
      · exact zld rfl trivial _ _ _ rfl rfl (fun w hw => load_in ((zca hw.tg 3).trans rfl))
      · exact zfa rfl trivial _ _ _ _ rfl rfl (fun w hw => faE3 w _ _)
      · exact zld rfl trivial _ _ _ rfl rfl (fun w hw => load_in ((zca hw.bx 3).trans rfl))
      · exact zbo rfl trivial _ _ _ _ _ _ _ rfl rfl rfl (fun w hw => by rw [← c0]; exact bin_eql _ _ _)
      · exact zmv rfl trivial _ rfl (by kernel_rfl)
      · exact zfa rfl ⟨_, rfl, by kernel_rfl⟩ _ _ _ _ rfl rfl (fun w hw => faE4 w _ _)
      · exact zld rfl ⟨_, rfl, by kernel_rfl⟩ _ _ _ rfl rfl (fun w hw => load_in ((zca hw.tg 4).trans rfl))
      · exact zfa rfl ⟨_, rfl, by kernel_rfl⟩ _ _ _ _ rfl rfl (fun w hw => faE4 w _ _)
      · exact zld rfl ⟨_, rfl, by kernel_rfl⟩ _ _ _ rfl rfl (fun w hw => load_in ((zca hw.bx 4).trans rfl))
      · exact zbo rfl ⟨_, rfl, by kernel_rfl⟩ _ _ _ _ _ _ _ rfl rfl rfl (fun w hw => by rw [← c1]; exact bin_eql _ _ _)
      · exact step_pick rfl trivial _ _ _ true rfl (by kernel_rfl) (by kernel_rfl)
      · exact zmv rfl trivial _ rfl (by kernel_rfl)
      · exact zsk rfl 12 true 68 (.bool false) rfl rfl (by kernel_rfl) (by intro h; cases h) rfl
      · exact zsk rfl 12 true 68 (.bool false) rfl rfl (by kernel_rfl) (by intro h; cases h) rfl
      · exact zsk rfl 12 true 68 (.bool false) rfl rfl (by kernel_rfl) (by intro h; cases h) rfl
      · exact zsk rfl 12 true 68 (.bool false) rfl rfl (by kernel_rfl) (by intro h; cases h) rfl
      · exact zsk rfl 12 true 68 (.bool false) rfl rfl (by kernel_rfl) (by intro h; cases h) rfl
      · exact step_pick rfl trivial _ _ _ false rfl (by kernel_rfl) (by kernel_rfl)
      · exact zmv rfl trivial _ rfl (by kernel_rfl)
      · exact zsk rfl 19 true 75 (.bool false) rfl rfl (by kernel_rfl) (by intro h; cases h) rfl
      · exact zsk rfl 19 true 75 (.bool false) rfl rfl (by kernel_rfl) (by intro h; cases h) rfl
      · exact zsk rfl 19 true 75 (.bool false) rfl rfl (by kernel_rfl) (by intro h; cases h) rfl
      · exact zsk rfl 19 true 75 (.bool false) rfl rfl (by kernel_rfl) (by intro h; cases h) rfl
      · exact zsk rfl 19 true 75 (.bool false) rfl rfl (by kernel_rfl) (by intro h; cases h) rfl
      · exact step_pick rfl trivial _ _ _ false rfl (by kernel_rfl) (by kernel_rfl)
      · exact zmv rfl trivial _ rfl (by kernel_rfl)
      · exact zsk rfl 26 true 82 (.bool false) rfl rfl (by kernel_rfl) (by intro h; cases h) rfl
      · exact zsk rfl 26 true 82 (.bool false) rfl rfl (by kernel_rfl) (by intro h; cases h) rfl
      · exact zsk rfl 26 true 82 (.bool false) rfl rfl (by kernel_rfl) (by intro h; cases h) rfl
      · exact zsk rfl 26 true 82 (.bool false) rfl rfl (by kernel_rfl) (by intro h; cases h) rfl
      · exact zsk rfl 26 true 82 (.bool false) rfl rfl (by kernel_rfl) (by intro h; cases h) rfl
      · exact step_pick rfl trivial _ _ _ false rfl (by kernel_rfl) (by kernel_rfl)
      · exact zmv rfl trivial _ rfl (by kernel_rfl)
      · exact zsk rfl 33 true 89 (.bool false) rfl rfl (by kernel_rfl) (by intro h; cases h) rfl
      · exact zsk rfl 33 true 89 (.bool false) rfl rfl (by kernel_rfl) (by intro h; cases h) rfl
      · exact zsk rfl 33 true 89 (.bool false) rfl rfl (by kernel_rfl) (by intro h; cases h) rfl
      · exact zsk rfl 33 true 89 (.bool false) rfl rfl (by kernel_rfl) (by intro h; cases h) rfl
      · exact zsk rfl 33 true 89 (.bool false) rfl rfl (by kernel_rfl) (by intro h; cases h) rfl
      · exact step_pick rfl trivial _ _ _ false rfl (by kernel_rfl) (by kernel_rfl)
      · exact zas rfl trivial _ rfl (by kernel_rfl) (fun _ h => h)
    intro W hW
    simp only [Exit.then, finL, List.getD_cons_zero, List.getD_cons_succ, Nat.zero_add, Nat.reduceAdd, List.setIfInBounds_toArray, List.set_cons_zero, List.set_cons_succ]
    go_wp2
    go_ret
    exact ⟨by rw [hy]; exact congrArg (fun z => Ending.returned (Value.bool z)) (Eq.symm (Bool.eq_false_iff.2 (fun hE => by have hE2 := (eqEv_iff _ _).1 hE; simp [bareE, k1, k2, k3, k4, k5] at hE2; simp at c1; omega))), hW.bl⟩
  | true =>
    cases c2 : (0 == of) with
    | false =>
      refine wp_region ?_
      refine wpOps_pure0 (fun i__ => ([(.pointer (some ⟨w.heap.size + 1, 3, none⟩)), (.int .i64 0), (.pointer (some ⟨w.heap.size, 3, none⟩)), (.int .i64 ro), (.bool true), (.bool true), (.pointer (some ⟨w.heap.size + 1, 4, none⟩)), (.int .i64 0), (.pointer (some ⟨w.heap.size, 4, none⟩)), (.int .i64 ta), (.bool true), (.bool true), (.bool true), (.pointer (some ⟨w.heap.size + 1, 5, none⟩)), (.int .i64 0), (.pointer (some ⟨w.heap.size, 5, none⟩)), (.int .i64 of), (.bool false), (.bool false), (.bool false), undef, undef, undef, undef, undef, (.bool false), (.bool false), undef, undef, undef, undef, undef, (.bool false), (.bool false), undef, undef, undef, undef, undef, (.bool false), (.bool false)] : List Value).getD i__ undef) (fun V => JX w (w.heap.size) (w.heap.size + 1) (w.heap.size) ⟨k, nd, li, ro, ta, of, du, he, un⟩ ⟨k, nd, li, 0, 0, 0, 0, 0, 0⟩ V) (by kernel_rfl) hJ3 ?_ ?_
      · refine (sqc ?_ (sqc ?_ (sqc ?_ (sqc ?_ (sqc ?_ (sqc ?_ (sqc ?_ (sqc ?_ (sqc ?_ (sqc ?_ (sqc ?_ (sqc ?_ (sqc ?_ (sqc ?_ (sqc ?_ (sqc ?_ (sqc ?_ (sqc ?_ (sqc ?_ (sqc ?_ (sqc ?_ (sqc ?_ (sqc ?_ (sqc ?_ (sqc ?_ (sqc ?_ (sqc ?_ (sqc ?_ (sqc ?_ (sqc ?_ (sqc ?_ (sqc ?_ (sqc ?_ (sqc ?_ (sqc ?_ (sqc ?_ (sqc ?_ (sqc ?_ (sqc ?_ (sqc ?_ (sqc ?_ trivial)))))))))))))))))))))))))))))))))))))))))
        · exact zfa rfl trivial _ _ _ _ rfl rfl (fun w hw => faE3 w _ _)
        · exact zld rfl trivial _ _ _ rfl rfl (fun w hw => load_in ((zca hw.tg 3).trans rfl))
        · exact zfa rfl trivial _ _ _ _ rfl rfl (fun w hw => faE3 w _ _)
        · exact zld rfl trivial _ _ _ rfl rfl (fun w hw => load_in ((zca hw.bx 3).trans rfl))
        · exact zbo rfl trivial _ _ _ _ _ _ _ rfl rfl rfl (fun w hw => by rw [← c0]; exact bin_eql _ _ _)
        · exact zmv rfl trivial _ rfl (by kernel_rfl)
        · exact zfa rfl ⟨_, rfl, by kernel_rfl⟩ _ _ _ _ rfl rfl (fun w hw => faE4 w _ _)
        · exact zld rfl ⟨_, rfl, by kernel_rfl⟩ _ _ _ rfl rfl (fun w hw => load_in ((zca hw.tg 4).trans rfl))
        · exact zfa rfl ⟨_, rfl, by kernel_rfl⟩ _ _ _ _ rfl rfl (fun w hw => faE4 w _ _)
        · exact zld rfl ⟨_, rfl, by kernel_rfl⟩ _ _ _ rfl rfl (fun w hw => load_in ((zca hw.bx 4).trans rfl))
        · exact zbo rfl ⟨_, rfl, by kernel_rfl⟩ _ _ _ _ _ _ _ rfl rfl rfl (fun w hw => by rw [← c1]; exact bin_eql _ _ _)
        · exact step_pick rfl trivial _ _ _ true rfl (by kernel_rfl) (by kernel_rfl)
        · exact zmv rfl trivial _ rfl (by kernel_rfl)
        · exact zfa rfl ⟨_, rfl, by kernel_rfl⟩ _ _ _ _ rfl rfl (fun w hw => faE5 w _ _)
        · exact zld rfl ⟨_, rfl, by kernel_rfl⟩ _ _ _ rfl rfl (fun w hw => load_in ((zca hw.tg 5).trans rfl))
        · exact zfa rfl ⟨_, rfl, by kernel_rfl⟩ _ _ _ _ rfl rfl (fun w hw => faE5 w _ _)
        · exact zld rfl ⟨_, rfl, by kernel_rfl⟩ _ _ _ rfl rfl (fun w hw => load_in ((zca hw.bx 5).trans rfl))
        · exact zbo rfl ⟨_, rfl, by kernel_rfl⟩ _ _ _ _ _ _ _ rfl rfl rfl (fun w hw => by rw [← c2]; exact bin_eql _ _ _)
        · exact step_pick rfl trivial _ _ _ true rfl (by kernel_rfl) (by kernel_rfl)
        · exact zmv rfl trivial _ rfl (by kernel_rfl)
        · exact zsk rfl 19 true 75 (.bool false) rfl rfl (by kernel_rfl) (by intro h; cases h) rfl
        · exact zsk rfl 19 true 75 (.bool false) rfl rfl (by kernel_rfl) (by intro h; cases h) rfl
        · exact zsk rfl 19 true 75 (.bool false) rfl rfl (by kernel_rfl) (by intro h; cases h) rfl
        · exact zsk rfl 19 true 75 (.bool false) rfl rfl (by kernel_rfl) (by intro h; cases h) rfl
        · exact zsk rfl 19 true 75 (.bool false) rfl rfl (by kernel_rfl) (by intro h; cases h) rfl
        · exact step_pick rfl trivial _ _ _ false rfl (by kernel_rfl) (by kernel_rfl)
        · exact zmv rfl trivial _ rfl (by kernel_rfl)
        · exact zsk rfl 26 true 82 (.bool false) rfl rfl (by kernel_rfl) (by intro h; cases h) rfl
        · exact zsk rfl 26 true 82 (.bool false) rfl rfl (by kernel_rfl) (by intro h; cases h) rfl
        · exact zsk rfl 26 true 82 (.bool false) rfl rfl (by kernel_rfl) (by intro h; cases h) rfl
        · exact zsk rfl 26 true 82 (.bool false) rfl rfl (by kernel_rfl) (by intro h; cases h) rfl
        · exact zsk rfl 26 true 82 (.bool false) rfl rfl (by kernel_rfl) (by intro h; cases h) rfl
        · exact step_pick rfl trivial _ _ _ false rfl (by kernel_rfl) (by kernel_rfl)
        · exact zmv rfl trivial _ rfl (by kernel_rfl)
        · exact zsk rfl 33 true 89 (.bool false) rfl rfl (by kernel_rfl) (by intro h; cases h) rfl
        · exact zsk rfl 33 true 89 (.bool false) rfl rfl (by kernel_rfl) (by intro h; cases h) rfl
        · exact zsk rfl 33 true 89 (.bool false) rfl rfl (by kernel_rfl) (by intro h; cases h) rfl
        · exact zsk rfl 33 true 89 (.bool false) rfl rfl (by kernel_rfl) (by intro h; cases h) rfl
        · exact zsk rfl 33 true 89 (.bool false) rfl rfl (by kernel_rfl) (by intro h; cases h) rfl
        · exact step_pick rfl trivial _ _ _ false rfl (by kernel_rfl) (by kernel_rfl)
        · exact zas rfl trivial _ rfl (by kernel_rfl) (fun _ h => h)
      intro W hW
      simp only [Exit.then, finL, List.getD_cons_zero, List.getD_cons_succ, Nat.zero_add, Nat.reduceAdd, List.setIfInBounds_toArray, List.set_cons_zero, List.set_cons_succ]
      go_wp2
      go_ret
      exact ⟨by rw [hy]; exact congrArg (fun z => Ending.returned (Value.bool z)) (Eq.symm (Bool.eq_false_iff.2 (fun hE => by have hE2 := (eqEv_iff _ _).1 hE; simp [bareE, k1, k2, k3, k4, k5] at hE2; simp at c2; omega))), hW.bl⟩
    | true =>
      cases c3 : (0 == du) with
      | false =>
        refine wp_region ?_
        refine wpOps_pure0 (fun i__ => ([(.pointer (some ⟨w.heap.size + 1, 3, none⟩)), (.int .i64 0), (.pointer (some ⟨w.heap.size, 3, none⟩)), (.int .i64 ro), (.bool true), (.bool true), (.pointer (some ⟨w.heap.size + 1, 4, none⟩)), (.int .i64 0), (.pointer (some ⟨w.heap.size, 4, none⟩)), (.int .i64 ta), (.bool true), (.bool true), (.bool true), (.pointer (some ⟨w.heap.size + 1, 5, none⟩)), (.int .i64 0), (.pointer (some ⟨w.heap.size, 5, none⟩)), (.int .i64 of), (.bool true), (.bool true), (.bool true), (.pointer (some ⟨w.heap.size + 1, 6, none⟩)), (.int .i64 0), (.pointer (some ⟨w.heap.size, 6, none⟩)), (.int .i64 du), (.bool false), (.bool false), (.bool false), undef, undef, undef, undef, undef, (.bool false), (.bool false), undef, undef, undef, undef, undef, (.bool false), (.bool false)] : List Value).getD i__ undef) (fun V => JX w (w.heap.size) (w.heap.size + 1) (w.heap.size) ⟨k, nd, li, ro, ta, of, du, he, un⟩ ⟨k, nd, li, 0, 0, 0, 0, 0, 0⟩ V) (by kernel_rfl) hJ3 ?_ ?_
        · refine (sqc ?_ (sqc ?_ (sqc ?_ (sqc ?_ (sqc ?_ (sqc ?_ (sqc ?_ (sqc ?_ (sqc ?_ (sqc ?_ (sqc ?_ (sqc ?_ (sqc ?_ (sqc ?_ (sqc ?_ (sqc ?_ (sqc ?_ (sqc ?_ (sqc ?_ (sqc ?_ (sqc ?_ (sqc ?_ (sqc ?_ (sqc ?_ (sqc ?_ (sqc ?_ (sqc ?_ (sqc ?_ (sqc ?_ (sqc ?_ (sqc ?_ (sqc ?_ (sqc ?_ (sqc ?_ (sqc ?_ (sqc ?_ (sqc ?_ (sqc ?_ (sqc ?_ (sqc ?_ (sqc ?_ trivial)))))))))))))))))))))))))))))))))))))))))
          · exact zfa rfl trivial _ _ _ _ rfl rfl (fun w hw => faE3 w _ _)
          · exact zld rfl trivial _ _ _ rfl rfl (fun w hw => load_in ((zca hw.tg 3).trans rfl))
          · exact zfa rfl trivial _ _ _ _ rfl rfl (fun w hw => faE3 w _ _)
          · exact zld rfl trivial _ _ _ rfl rfl (fun w hw => load_in ((zca hw.bx 3).trans rfl))
          · exact zbo rfl trivial _ _ _ _ _ _ _ rfl rfl rfl (fun w hw => by rw [← c0]; exact bin_eql _ _ _)
          · exact zmv rfl trivial _ rfl (by kernel_rfl)
          · exact zfa rfl ⟨_, rfl, by kernel_rfl⟩ _ _ _ _ rfl rfl (fun w hw => faE4 w _ _)
          · exact zld rfl ⟨_, rfl, by kernel_rfl⟩ _ _ _ rfl rfl (fun w hw => load_in ((zca hw.tg 4).trans rfl))
          · exact zfa rfl ⟨_, rfl, by kernel_rfl⟩ _ _ _ _ rfl rfl (fun w hw => faE4 w _ _)
          · exact zld rfl ⟨_, rfl, by kernel_rfl⟩ _ _ _ rfl rfl (fun w hw => load_in ((zca hw.bx 4).trans rfl))
          · exact zbo rfl ⟨_, rfl, by kernel_rfl⟩ _ _ _ _ _ _ _ rfl rfl rfl (fun w hw => by rw [← c1]; exact bin_eql _ _ _)
          · exact step_pick rfl trivial _ _ _ true rfl (by kernel_rfl) (by kernel_rfl)
          · exact zmv rfl trivial _ rfl (by kernel_rfl)
          · exact zfa rfl ⟨_, rfl, by kernel_rfl⟩ _ _ _ _ rfl rfl (fun w hw => faE5 w _ _)
          · exact zld rfl ⟨_, rfl, by kernel_rfl⟩ _ _ _ rfl rfl (fun w hw => load_in ((zca hw.tg 5).trans rfl))
          · exact zfa rfl ⟨_, rfl, by kernel_rfl⟩ _ _ _ _ rfl rfl (fun w hw => faE5 w _ _)
          · exact zld rfl ⟨_, rfl, by kernel_rfl⟩ _ _ _ rfl rfl (fun w hw => load_in ((zca hw.bx 5).trans rfl))
          · exact zbo rfl ⟨_, rfl, by kernel_rfl⟩ _ _ _ _ _ _ _ rfl rfl rfl (fun w hw => by rw [← c2]; exact bin_eql _ _ _)
          · exact step_pick rfl trivial _ _ _ true rfl (by kernel_rfl) (by kernel_rfl)
          · exact zmv rfl trivial _ rfl (by kernel_rfl)
          · exact zfa rfl ⟨_, rfl, by kernel_rfl⟩ _ _ _ _ rfl rfl (fun w hw => faE6 w _ _)
          · exact zld rfl ⟨_, rfl, by kernel_rfl⟩ _ _ _ rfl rfl (fun w hw => load_in ((zca hw.tg 6).trans rfl))
          · exact zfa rfl ⟨_, rfl, by kernel_rfl⟩ _ _ _ _ rfl rfl (fun w hw => faE6 w _ _)
          · exact zld rfl ⟨_, rfl, by kernel_rfl⟩ _ _ _ rfl rfl (fun w hw => load_in ((zca hw.bx 6).trans rfl))
          · exact zbo rfl ⟨_, rfl, by kernel_rfl⟩ _ _ _ _ _ _ _ rfl rfl rfl (fun w hw => by rw [← c3]; exact bin_eql _ _ _)
          · exact step_pick rfl trivial _ _ _ true rfl (by kernel_rfl) (by kernel_rfl)
          · exact zmv rfl trivial _ rfl (by kernel_rfl)
          · exact zsk rfl 26 true 82 (.bool false) rfl rfl (by kernel_rfl) (by intro h; cases h) rfl
          · exact zsk rfl 26 true 82 (.bool false) rfl rfl (by kernel_rfl) (by intro h; cases h) rfl
          · exact zsk rfl 26 true 82 (.bool false) rfl rfl (by kernel_rfl) (by intro h; cases h) rfl
          · exact zsk rfl 26 true 82 (.bool false) rfl rfl (by kernel_rfl) (by intro h; cases h) rfl
          · exact zsk rfl 26 true 82 (.bool false) rfl rfl (by kernel_rfl) (by intro h; cases h) rfl
          · exact step_pick rfl trivial _ _ _ false rfl (by kernel_rfl) (by kernel_rfl)
          · exact zmv rfl trivial _ rfl (by kernel_rfl)
          · exact zsk rfl 33 true 89 (.bool false) rfl rfl (by kernel_rfl) (by intro h; cases h) rfl
          · exact zsk rfl 33 true 89 (.bool false) rfl rfl (by kernel_rfl) (by intro h; cases h) rfl
          · exact zsk rfl 33 true 89 (.bool false) rfl rfl (by kernel_rfl) (by intro h; cases h) rfl
          · exact zsk rfl 33 true 89 (.bool false) rfl rfl (by kernel_rfl) (by intro h; cases h) rfl
          · exact zsk rfl 33 true 89 (.bool false) rfl rfl (by kernel_rfl) (by intro h; cases h) rfl
          · exact step_pick rfl trivial _ _ _ false rfl (by kernel_rfl) (by kernel_rfl)
          · exact zas rfl trivial _ rfl (by kernel_rfl) (fun _ h => h)
        intro W hW
        simp only [Exit.then, finL, List.getD_cons_zero, List.getD_cons_succ, Nat.zero_add, Nat.reduceAdd, List.setIfInBounds_toArray, List.set_cons_zero, List.set_cons_succ]
        go_wp2
        go_ret
        exact ⟨by rw [hy]; exact congrArg (fun z => Ending.returned (Value.bool z)) (Eq.symm (Bool.eq_false_iff.2 (fun hE => by have hE2 := (eqEv_iff _ _).1 hE; simp [bareE, k1, k2, k3, k4, k5] at hE2; simp at c3; omega))), hW.bl⟩
      | true =>
        cases c4 : decide (0 = he) with
        | false =>
          refine wp_region ?_
          refine wpOps_pure0 (fun i__ => ([(.pointer (some ⟨w.heap.size + 1, 3, none⟩)), (.int .i64 0), (.pointer (some ⟨w.heap.size, 3, none⟩)), (.int .i64 ro), (.bool true), (.bool true), (.pointer (some ⟨w.heap.size + 1, 4, none⟩)), (.int .i64 0), (.pointer (some ⟨w.heap.size, 4, none⟩)), (.int .i64 ta), (.bool true), (.bool true), (.bool true), (.pointer (some ⟨w.heap.size + 1, 5, none⟩)), (.int .i64 0), (.pointer (some ⟨w.heap.size, 5, none⟩)), (.int .i64 of), (.bool true), (.bool true), (.bool true), (.pointer (some ⟨w.heap.size + 1, 6, none⟩)), (.int .i64 0), (.pointer (some ⟨w.heap.size, 6, none⟩)), (.int .i64 du), (.bool true), (.bool true), (.bool true), (.pointer (some ⟨w.heap.size + 1, 7, none⟩)), (sv 0), (.pointer (some ⟨w.heap.size, 7, none⟩)), (sv he), (.bool false), (.bool false), (.bool false), undef, undef, undef, undef, undef, (.bool false), (.bool false)] : List Value).getD i__ undef) (fun V => JX w (w.heap.size) (w.heap.size + 1) (w.heap.size) ⟨k, nd, li, ro, ta, of, du, he, un⟩ ⟨k, nd, li, 0, 0, 0, 0, 0, 0⟩ V) (by kernel_rfl) hJ3 ?_ ?_
          · refine (sqc ?_ (sqc ?_ (sqc ?_ (sqc ?_ (sqc ?_ (sqc ?_ (sqc ?_ (sqc ?_ (sqc ?_ (sqc ?_ (sqc ?_ (sqc ?_ (sqc ?_ (sqc ?_ (sqc ?_ (sqc ?_ (sqc ?_ (sqc ?_ (sqc ?_ (sqc ?_ (sqc ?_ (sqc ?_ (sqc ?_ (sqc ?_ (sqc ?_ (sqc ?_ (sqc ?_ (sqc ?_ (sqc ?_ (sqc ?_ (sqc ?_ (sqc ?_ (sqc ?_ (sqc ?_ (sqc ?_ (sqc ?_ (sqc ?_ (sqc ?_ (sqc ?_ (sqc ?_ (sqc ?_ trivial)))))))))))))))))))))))))))))))))))))))))
            · exact zfa rfl trivial _ _ _ _ rfl rfl (fun w hw => faE3 w _ _)
            · exact zld rfl trivial _ _ _ rfl rfl (fun w hw => load_in ((zca hw.tg 3).trans rfl))
            · exact zfa rfl trivial _ _ _ _ rfl rfl (fun w hw => faE3 w _ _)
            · exact zld rfl trivial _ _ _ rfl rfl (fun w hw => load_in ((zca hw.bx 3).trans rfl))
            · exact zbo rfl trivial _ _ _ _ _ _ _ rfl rfl rfl (fun w hw => by rw [← c0]; exact bin_eql _ _ _)
            · exact zmv rfl trivial _ rfl (by kernel_rfl)
            · exact zfa rfl ⟨_, rfl, by kernel_rfl⟩ _ _ _ _ rfl rfl (fun w hw => faE4 w _ _)
            · exact zld rfl ⟨_, rfl, by kernel_rfl⟩ _ _ _ rfl rfl (fun w hw => load_in ((zca hw.tg 4).trans rfl))
            · exact zfa rfl ⟨_, rfl, by kernel_rfl⟩ _ _ _ _ rfl rfl (fun w hw => faE4 w _ _)
            · exact zld rfl ⟨_, rfl, by kernel_rfl⟩ _ _ _ rfl rfl (fun w hw => load_in ((zca hw.bx 4).trans rfl))
            · exact zbo rfl ⟨_, rfl, by kernel_rfl⟩ _ _ _ _ _ _ _ rfl rfl rfl (fun w hw => by rw [← c1]; exact bin_eql _ _ _)
            · exact step_pick rfl trivial _ _ _ true rfl (by kernel_rfl) (by kernel_rfl)
            · exact zmv rfl trivial _ rfl (by kernel_rfl)
            · exact zfa rfl ⟨_, rfl, by kernel_rfl⟩ _ _ _ _ rfl rfl (fun w hw => faE5 w _ _)
            · exact zld rfl ⟨_, rfl, by kernel_rfl⟩ _ _ _ rfl rfl (fun w hw => load_in ((zca hw.tg 5).trans rfl))
            · exact zfa rfl ⟨_, rfl, by kernel_rfl⟩ _ _ _ _ rfl rfl (fun w hw => faE5 w _ _)
            · exact zld rfl ⟨_, rfl, by kernel_rfl⟩ _ _ _ rfl rfl (fun w hw => load_in ((zca hw.bx 5).trans rfl))
            · exact zbo rfl ⟨_, rfl, by kernel_rfl⟩ _ _ _ _ _ _ _ rfl rfl rfl (fun w hw => by rw [← c2]; exact bin_eql _ _ _)
            · exact step_pick rfl trivial _ _ _ true rfl (by kernel_rfl) (by kernel_rfl)
            · exact zmv rfl trivial _ rfl (by kernel_rfl)
            · exact zfa rfl ⟨_, rfl, by kernel_rfl⟩ _ _ _ _ rfl rfl (fun w hw => faE6 w _ _)
            · exact zld rfl ⟨_, rfl, by kernel_rfl⟩ _ _ _ rfl rfl (fun w hw => load_in ((zca hw.tg 6).trans rfl))
            · exact zfa rfl ⟨_, rfl, by kernel_rfl⟩ _ _ _ _ rfl rfl (fun w hw => faE6 w _ _)
            · exact zld rfl ⟨_, rfl, by kernel_rfl⟩ _ _ _ rfl rfl (fun w hw => load_in ((zca hw.bx 6).trans rfl))
            · exact zbo rfl ⟨_, rfl, by kernel_rfl⟩ _ _ _ _ _ _ _ rfl rfl rfl (fun w hw => by rw [← c3]; exact bin_eql _ _ _)
            · exact step_pick rfl trivial _ _ _ true rfl (by kernel_rfl) (by kernel_rfl)
            · exact zmv rfl trivial _ rfl (by kernel_rfl)
            · exact zfa rfl ⟨_, rfl, by kernel_rfl⟩ _ _ _ _ rfl rfl (fun w hw => faE7 w _ _)
            · exact zld rfl ⟨_, rfl, by kernel_rfl⟩ _ _ _ rfl rfl (fun w hw => load_se (N := 0) ((zca hw.tg 7).trans rfl) ((zca hw.tg 8).trans rfl) ((zca hw.tg 9).trans rfl) ((zca hw.tg 10).trans rfl))
            · exact zfa rfl ⟨_, rfl, by kernel_rfl⟩ _ _ _ _ rfl rfl (fun w hw => faE7 w _ _)
            · exact zld rfl ⟨_, rfl, by kernel_rfl⟩ _ _ _ rfl rfl (fun w hw => load_se (N := he) ((zca hw.bx 7).trans rfl) ((zca hw.bx 8).trans rfl) ((zca hw.bx 9).trans rfl) ((zca hw.bx 10).trans rfl))
            · exact zbo rfl ⟨_, rfl, by kernel_rfl⟩ _ _ _ _ _ _ _ rfl rfl rfl (fun w hw => by rw [← c4]; exact eql4 _ _ 0 he s0lt hhe w)
            · exact step_pick rfl trivial _ _ _ true rfl (by kernel_rfl) (by kernel_rfl)
            · exact zmv rfl trivial _ rfl (by kernel_rfl)
            · exact zsk rfl 33 true 89 (.bool false) rfl rfl (by kernel_rfl) (by intro h; cases h) rfl
            · exact zsk rfl 33 true 89 (.bool false) rfl rfl (by kernel_rfl) (by intro h; cases h) rfl
            · exact zsk rfl 33 true 89 (.bool false) rfl rfl (by kernel_rfl) (by intro h; cases h) rfl
            · exact zsk rfl 33 true 89 (.bool false) rfl rfl (by kernel_rfl) (by intro h; cases h) rfl
            · exact zsk rfl 33 true 89 (.bool false) rfl rfl (by kernel_rfl) (by intro h; cases h) rfl
            · exact step_pick rfl trivial _ _ _ false rfl (by kernel_rfl) (by kernel_rfl)
            · exact zas rfl trivial _ rfl (by kernel_rfl) (fun _ h => h)
          intro W hW
          simp only [Exit.then, finL, List.getD_cons_zero, List.getD_cons_succ, Nat.zero_add, Nat.reduceAdd, List.setIfInBounds_toArray, List.set_cons_zero, List.set_cons_succ]
          go_wp2
          go_ret
          exact ⟨by rw [hy]; exact congrArg (fun z => Ending.returned (Value.bool z)) (Eq.symm (Bool.eq_false_iff.2 (fun hE => by have hE2 := (eqEv_iff _ _).1 hE; simp [bareE, k1, k2, k3, k4, k5] at hE2; simp at c4; omega))), hW.bl⟩
        | true =>
          cases c5 : decide (0 = un) with
          | false =>
            refine wp_region ?_
            refine wpOps_pure0 (fun i__ => ([(.pointer (some ⟨w.heap.size + 1, 3, none⟩)), (.int .i64 0), (.pointer (some ⟨w.heap.size, 3, none⟩)), (.int .i64 ro), (.bool true), (.bool true), (.pointer (some ⟨w.heap.size + 1, 4, none⟩)), (.int .i64 0), (.pointer (some ⟨w.heap.size, 4, none⟩)), (.int .i64 ta), (.bool true), (.bool true), (.bool true), (.pointer (some ⟨w.heap.size + 1, 5, none⟩)), (.int .i64 0), (.pointer (some ⟨w.heap.size, 5, none⟩)), (.int .i64 of), (.bool true), (.bool true), (.bool true), (.pointer (some ⟨w.heap.size + 1, 6, none⟩)), (.int .i64 0), (.pointer (some ⟨w.heap.size, 6, none⟩)), (.int .i64 du), (.bool true), (.bool true), (.bool true), (.pointer (some ⟨w.heap.size + 1, 7, none⟩)), (sv 0), (.pointer (some ⟨w.heap.size, 7, none⟩)), (sv he), (.bool true), (.bool true), (.bool true), (.pointer (some ⟨w.heap.size + 1, 11, none⟩)), (sv 0), (.pointer (some ⟨w.heap.size, 11, none⟩)), (sv un), (.bool false), (.bool false), (.bool false)] : List Value).getD i__ undef) (fun V => JX w (w.heap.size) (w.heap.size + 1) (w.heap.size) ⟨k, nd, li, ro, ta, of, du, he, un⟩ ⟨k, nd, li, 0, 0, 0, 0, 0, 0⟩ V) (by kernel_rfl) hJ3 ?_ ?_
            · refine (sqc ?_ (sqc ?_ (sqc ?_ (sqc ?_ (sqc ?_ (sqc ?_ (sqc ?_ (sqc ?_ (sqc ?_ (sqc ?_ (sqc ?_ (sqc ?_ (sqc ?_ (sqc ?_ (sqc ?_ (sqc ?_ (sqc ?_ (sqc ?_ (sqc ?_ (sqc ?_ (sqc ?_ (sqc ?_ (sqc ?_ (sqc ?_ (sqc ?_ (sqc ?_ (sqc ?_ (sqc ?_ (sqc ?_ (sqc ?_ (sqc ?_ (sqc ?_ (sqc ?_ (sqc ?_ (sqc ?_ (sqc ?_ (sqc ?_ (sqc ?_ (sqc ?_ (sqc ?_ (sqc ?_ trivial)))))))))))))))))))))))))))))))))))))))))
              · exact zfa rfl trivial _ _ _ _ rfl rfl (fun w hw => faE3 w _ _)
              · exact zld rfl trivial _ _ _ rfl rfl (fun w hw => load_in ((zca hw.tg 3).trans rfl))
              · exact zfa rfl trivial _ _ _ _ rfl rfl (fun w hw => faE3 w _ _)
              · exact zld rfl trivial _ _ _ rfl rfl (fun w hw => load_in ((zca hw.bx 3).trans rfl))
              · exact zbo rfl trivial _ _ _ _ _ _ _ rfl rfl rfl (fun w hw => by rw [← c0]; exact bin_eql _ _ _)
              · exact zmv rfl trivial _ rfl (by kernel_rfl)
              · exact zfa rfl ⟨_, rfl, by kernel_rfl⟩ _ _ _ _ rfl rfl (fun w hw => faE4 w _ _)
              · exact zld rfl ⟨_, rfl, by kernel_rfl⟩ _ _ _ rfl rfl (fun w hw => load_in ((zca hw.tg 4).trans rfl))
              · exact zfa rfl ⟨_, rfl, by kernel_rfl⟩ _ _ _ _ rfl rfl (fun w hw => faE4 w _ _)
              · exact zld rfl ⟨_, rfl, by kernel_rfl⟩ _ _ _ rfl rfl (fun w hw => load_in ((zca hw.bx 4).trans rfl))
              · exact zbo rfl ⟨_, rfl, by kernel_rfl⟩ _ _ _ _ _ _ _ rfl rfl rfl (fun w hw => by rw [← c1]; exact bin_eql _ _ _)
              · exact step_pick rfl trivial _ _ _ true rfl (by kernel_rfl) (by kernel_rfl)
              · exact zmv rfl trivial _ rfl (by kernel_rfl)
              · exact zfa rfl ⟨_, rfl, by kernel_rfl⟩ _ _ _ _ rfl rfl (fun w hw => faE5 w _ _)
              · exact zld rfl ⟨_, rfl, by kernel_rfl⟩ _ _ _ rfl rfl (fun w hw => load_in ((zca hw.tg 5).trans rfl))
              · exact zfa rfl ⟨_, rfl, by kernel_rfl⟩ _ _ _ _ rfl rfl (fun w hw => faE5 w _ _)
              · exact zld rfl ⟨_, rfl, by kernel_rfl⟩ _ _ _ rfl rfl (fun w hw => load_in ((zca hw.bx 5).trans rfl))
              · exact zbo rfl ⟨_, rfl, by kernel_rfl⟩ _ _ _ _ _ _ _ rfl rfl rfl (fun w hw => by rw [← c2]; exact bin_eql _ _ _)
              · exact step_pick rfl trivial _ _ _ true rfl (by kernel_rfl) (by kernel_rfl)
              · exact zmv rfl trivial _ rfl (by kernel_rfl)
              · exact zfa rfl ⟨_, rfl, by kernel_rfl⟩ _ _ _ _ rfl rfl (fun w hw => faE6 w _ _)
              · exact zld rfl ⟨_, rfl, by kernel_rfl⟩ _ _ _ rfl rfl (fun w hw => load_in ((zca hw.tg 6).trans rfl))
              · exact zfa rfl ⟨_, rfl, by kernel_rfl⟩ _ _ _ _ rfl rfl (fun w hw => faE6 w _ _)
              · exact zld rfl ⟨_, rfl, by kernel_rfl⟩ _ _ _ rfl rfl (fun w hw => load_in ((zca hw.bx 6).trans rfl))
              · exact zbo rfl ⟨_, rfl, by kernel_rfl⟩ _ _ _ _ _ _ _ rfl rfl rfl (fun w hw => by rw [← c3]; exact bin_eql _ _ _)
              · exact step_pick rfl trivial _ _ _ true rfl (by kernel_rfl) (by kernel_rfl)
              · exact zmv rfl trivial _ rfl (by kernel_rfl)
              · exact zfa rfl ⟨_, rfl, by kernel_rfl⟩ _ _ _ _ rfl rfl (fun w hw => faE7 w _ _)
              · exact zld rfl ⟨_, rfl, by kernel_rfl⟩ _ _ _ rfl rfl (fun w hw => load_se (N := 0) ((zca hw.tg 7).trans rfl) ((zca hw.tg 8).trans rfl) ((zca hw.tg 9).trans rfl) ((zca hw.tg 10).trans rfl))
              · exact zfa rfl ⟨_, rfl, by kernel_rfl⟩ _ _ _ _ rfl rfl (fun w hw => faE7 w _ _)
              · exact zld rfl ⟨_, rfl, by kernel_rfl⟩ _ _ _ rfl rfl (fun w hw => load_se (N := he) ((zca hw.bx 7).trans rfl) ((zca hw.bx 8).trans rfl) ((zca hw.bx 9).trans rfl) ((zca hw.bx 10).trans rfl))
              · exact zbo rfl ⟨_, rfl, by kernel_rfl⟩ _ _ _ _ _ _ _ rfl rfl rfl (fun w hw => by rw [← c4]; exact eql4 _ _ 0 he s0lt hhe w)
              · exact step_pick rfl trivial _ _ _ true rfl (by kernel_rfl) (by kernel_rfl)
              · exact zmv rfl trivial _ rfl (by kernel_rfl)
              · exact zfa rfl ⟨_, rfl, by kernel_rfl⟩ _ _ _ _ rfl rfl (fun w hw => faE8 w _ _)
              · exact zld rfl ⟨_, rfl, by kernel_rfl⟩ _ _ _ rfl rfl (fun w hw => load_se (N := 0) ((zca hw.tg 11).trans rfl) ((zca hw.tg 12).trans rfl) ((zca hw.tg 13).trans rfl) ((zca hw.tg 14).trans rfl))
              · exact zfa rfl ⟨_, rfl, by kernel_rfl⟩ _ _ _ _ rfl rfl (fun w hw => faE8 w _ _)
              · exact zld rfl ⟨_, rfl, by kernel_rfl⟩ _ _ _ rfl rfl (fun w hw => load_se (N := un) ((zca hw.bx 11).trans rfl) ((zca hw.bx 12).trans rfl) ((zca hw.bx 13).trans rfl) ((zca hw.bx 14).trans rfl))
              · exact zbo rfl ⟨_, rfl, by kernel_rfl⟩ _ _ _ _ _ _ _ rfl rfl rfl (fun w hw => by rw [← c5]; exact eql4 _ _ 0 un s0lt hun w)
              · exact step_pick rfl trivial _ _ _ true rfl (by kernel_rfl) (by kernel_rfl)
              · exact zas rfl trivial _ rfl (by kernel_rfl) (fun _ h => h)
            intro W hW
            simp only [Exit.then, finL, List.getD_cons_zero, List.getD_cons_succ, Nat.zero_add, Nat.reduceAdd, List.setIfInBounds_toArray, List.set_cons_zero, List.set_cons_succ]
            go_wp2
            go_ret
            exact ⟨by rw [hy]; exact congrArg (fun z => Ending.returned (Value.bool z)) (Eq.symm (Bool.eq_false_iff.2 (fun hE => by have hE2 := (eqEv_iff _ _).1 hE; simp [bareE, k1, k2, k3, k4, k5] at hE2; simp at c5; omega))), hW.bl⟩
          | true =>
            refine wp_region ?_
            refine wpOps_pure0 (fun i__ => ([(.pointer (some ⟨w.heap.size + 1, 3, none⟩)), (.int .i64 0), (.pointer (some ⟨w.heap.size, 3, none⟩)), (.int .i64 ro), (.bool true), (.bool true), (.pointer (some ⟨w.heap.size + 1, 4, none⟩)), (.int .i64 0), (.pointer (some ⟨w.heap.size, 4, none⟩)), (.int .i64 ta), (.bool true), (.bool true), (.bool true), (.pointer (some ⟨w.heap.size + 1, 5, none⟩)), (.int .i64 0), (.pointer (some ⟨w.heap.size, 5, none⟩)), (.int .i64 of), (.bool true), (.bool true), (.bool true), (.pointer (some ⟨w.heap.size + 1, 6, none⟩)), (.int .i64 0), (.pointer (some ⟨w.heap.size, 6, none⟩)), (.int .i64 du), (.bool true), (.bool true), (.bool true), (.pointer (some ⟨w.heap.size + 1, 7, none⟩)), (sv 0), (.pointer (some ⟨w.heap.size, 7, none⟩)), (sv he), (.bool true), (.bool true), (.bool true), (.pointer (some ⟨w.heap.size + 1, 11, none⟩)), (sv 0), (.pointer (some ⟨w.heap.size, 11, none⟩)), (sv un), (.bool true), (.bool true), (.bool true)] : List Value).getD i__ undef) (fun V => JX w (w.heap.size) (w.heap.size + 1) (w.heap.size) ⟨k, nd, li, ro, ta, of, du, he, un⟩ ⟨k, nd, li, 0, 0, 0, 0, 0, 0⟩ V) (by kernel_rfl) hJ3 ?_ ?_
            · refine (sqc ?_ (sqc ?_ (sqc ?_ (sqc ?_ (sqc ?_ (sqc ?_ (sqc ?_ (sqc ?_ (sqc ?_ (sqc ?_ (sqc ?_ (sqc ?_ (sqc ?_ (sqc ?_ (sqc ?_ (sqc ?_ (sqc ?_ (sqc ?_ (sqc ?_ (sqc ?_ (sqc ?_ (sqc ?_ (sqc ?_ (sqc ?_ (sqc ?_ (sqc ?_ (sqc ?_ (sqc ?_ (sqc ?_ (sqc ?_ (sqc ?_ (sqc ?_ (sqc ?_ (sqc ?_ (sqc ?_ (sqc ?_ (sqc ?_ (sqc ?_ (sqc ?_ (sqc ?_ (sqc ?_ trivial)))))))))))))))))))))))))))))))))))))))))
              · exact zfa rfl trivial _ _ _ _ rfl rfl (fun w hw => faE3 w _ _)
              · exact zld rfl trivial _ _ _ rfl rfl (fun w hw => load_in ((zca hw.tg 3).trans rfl))
              · exact zfa rfl trivial _ _ _ _ rfl rfl (fun w hw => faE3 w _ _)
              · exact zld rfl trivial _ _ _ rfl rfl (fun w hw => load_in ((zca hw.bx 3).trans rfl))
              · exact zbo rfl trivial _ _ _ _ _ _ _ rfl rfl rfl (fun w hw => by rw [← c0]; exact bin_eql _ _ _)
              · exact zmv rfl trivial _ rfl (by kernel_rfl)
              · exact zfa rfl ⟨_, rfl, by kernel_rfl⟩ _ _ _ _ rfl rfl (fun w hw => faE4 w _ _)
              · exact zld rfl ⟨_, rfl, by kernel_rfl⟩ _ _ _ rfl rfl (fun w hw => load_in ((zca hw.tg 4).trans rfl))
              · exact zfa rfl ⟨_, rfl, by kernel_rfl⟩ _ _ _ _ rfl rfl (fun w hw => faE4 w _ _)
              · exact zld rfl ⟨_, rfl, by kernel_rfl⟩ _ _ _ rfl rfl (fun w hw => load_in ((zca hw.bx 4).trans rfl))
              · exact zbo rfl ⟨_, rfl, by kernel_rfl⟩ _ _ _ _ _ _ _ rfl rfl rfl (fun w hw => by rw [← c1]; exact bin_eql _ _ _)
              · exact step_pick rfl trivial _ _ _ true rfl (by kernel_rfl) (by kernel_rfl)
              · exact zmv rfl trivial _ rfl (by kernel_rfl)
              · exact zfa rfl ⟨_, rfl, by kernel_rfl⟩ _ _ _ _ rfl rfl (fun w hw => faE5 w _ _)
              · exact zld rfl ⟨_, rfl, by kernel_rfl⟩ _ _ _ rfl rfl (fun w hw => load_in ((zca hw.tg 5).trans rfl))
              · exact zfa rfl ⟨_, rfl, by kernel_rfl⟩ _ _ _ _ rfl rfl (fun w hw => faE5 w _ _)
              · exact zld rfl ⟨_, rfl, by kernel_rfl⟩ _ _ _ rfl rfl (fun w hw => load_in ((zca hw.bx 5).trans rfl))
              · exact zbo rfl ⟨_, rfl, by kernel_rfl⟩ _ _ _ _ _ _ _ rfl rfl rfl (fun w hw => by rw [← c2]; exact bin_eql _ _ _)
              · exact step_pick rfl trivial _ _ _ true rfl (by kernel_rfl) (by kernel_rfl)
              · exact zmv rfl trivial _ rfl (by kernel_rfl)
              · exact zfa rfl ⟨_, rfl, by kernel_rfl⟩ _ _ _ _ rfl rfl (fun w hw => faE6 w _ _)
              · exact zld rfl ⟨_, rfl, by kernel_rfl⟩ _ _ _ rfl rfl (fun w hw => load_in ((zca hw.tg 6).trans rfl))
              · exact zfa rfl ⟨_, rfl, by kernel_rfl⟩ _ _ _ _ rfl rfl (fun w hw => faE6 w _ _)
              · exact zld rfl ⟨_, rfl, by kernel_rfl⟩ _ _ _ rfl rfl (fun w hw => load_in ((zca hw.bx 6).trans rfl))
              · exact zbo rfl ⟨_, rfl, by kernel_rfl⟩ _ _ _ _ _ _ _ rfl rfl rfl (fun w hw => by rw [← c3]; exact bin_eql _ _ _)
              · exact step_pick rfl trivial _ _ _ true rfl (by kernel_rfl) (by kernel_rfl)
              · exact zmv rfl trivial _ rfl (by kernel_rfl)
              · exact zfa rfl ⟨_, rfl, by kernel_rfl⟩ _ _ _ _ rfl rfl (fun w hw => faE7 w _ _)
              · exact zld rfl ⟨_, rfl, by kernel_rfl⟩ _ _ _ rfl rfl (fun w hw => load_se (N := 0) ((zca hw.tg 7).trans rfl) ((zca hw.tg 8).trans rfl) ((zca hw.tg 9).trans rfl) ((zca hw.tg 10).trans rfl))
              · exact zfa rfl ⟨_, rfl, by kernel_rfl⟩ _ _ _ _ rfl rfl (fun w hw => faE7 w _ _)
              · exact zld rfl ⟨_, rfl, by kernel_rfl⟩ _ _ _ rfl rfl (fun w hw => load_se (N := he) ((zca hw.bx 7).trans rfl) ((zca hw.bx 8).trans rfl) ((zca hw.bx 9).trans rfl) ((zca hw.bx 10).trans rfl))
              · exact zbo rfl ⟨_, rfl, by kernel_rfl⟩ _ _ _ _ _ _ _ rfl rfl rfl (fun w hw => by rw [← c4]; exact eql4 _ _ 0 he s0lt hhe w)
              · exact step_pick rfl trivial _ _ _ true rfl (by kernel_rfl) (by kernel_rfl)
              · exact zmv rfl trivial _ rfl (by kernel_rfl)
              · exact zfa rfl ⟨_, rfl, by kernel_rfl⟩ _ _ _ _ rfl rfl (fun w hw => faE8 w _ _)
              · exact zld rfl ⟨_, rfl, by kernel_rfl⟩ _ _ _ rfl rfl (fun w hw => load_se (N := 0) ((zca hw.tg 11).trans rfl) ((zca hw.tg 12).trans rfl) ((zca hw.tg 13).trans rfl) ((zca hw.tg 14).trans rfl))
              · exact zfa rfl ⟨_, rfl, by kernel_rfl⟩ _ _ _ _ rfl rfl (fun w hw => faE8 w _ _)
              · exact zld rfl ⟨_, rfl, by kernel_rfl⟩ _ _ _ rfl rfl (fun w hw => load_se (N := un) ((zca hw.bx 11).trans rfl) ((zca hw.bx 12).trans rfl) ((zca hw.bx 13).trans rfl) ((zca hw.bx 14).trans rfl))
              · exact zbo rfl ⟨_, rfl, by kernel_rfl⟩ _ _ _ _ _ _ _ rfl rfl rfl (fun w hw => by rw [← c5]; exact eql4 _ _ 0 un s0lt hun w)
              · exact step_pick rfl trivial _ _ _ true rfl (by kernel_rfl) (by kernel_rfl)
              · exact zas rfl trivial _ rfl (by kernel_rfl) (fun _ h => h)
            intro W hW
            simp only [Exit.then, finL, List.getD_cons_zero, List.getD_cons_succ, Nat.zero_add, Nat.reduceAdd, List.setIfInBounds_toArray, List.set_cons_zero, List.set_cons_succ]
            go_wp2
            go_ret
            exact ⟨by rw [hy]; exact congrArg (fun z => Ending.returned (Value.bool z)) (Eq.symm ((eqEv_iff _ _).2 (by simp at c0 c1 c2 c3 c4 c5; simp [bareE, k1, k2, k3, k4, k5]; omega))), hW.bl⟩
theorem rbare_any (x : Ev) (hhe : x.he < S128) (hun : x.un < S128) (w : World) : Calls Try.prog 17 #[evV x] w fun e w' => e = .returned (.bool (eqEv x (bareE x))) ∧ Below w.heap.size w w' := by
 obtain ⟨k, nd, li, ro, ta, of, du, he, un⟩ := x
 by_cases k1 : k = 1
 · subst k1; exact rbare_1 nd li ro ta of du he un hhe hun w
 by_cases k2 : k = 2
 · subst k2; exact rbare_2 nd li ro ta of du he un hhe hun w
 by_cases k3 : k = 3
 · subst k3; exact rbare_3 nd li ro ta of du he un hhe hun w
 by_cases k4 : k = 4
 · subst k4; exact rbare_4 nd li ro ta of du he un hhe hun w
 by_cases k5 : k = 5
 · subst k5; exact rbare_5 nd li ro ta of du he un hhe hun w
 exact rbare_0 k k1 k2 k3 k4 k5 nd li ro ta of du he un hhe hun w
end Go.Proofs.Ytifcnnonnocmmaa
