/- boot's Raise: what it answers. -/
import Derived.Test.YtjleggnkacmbbaaBte
namespace Go.Proofs.Ytjleggnkacmbbaa
open Go.RowKit Go.Shelf Go.Lib

section
variable {W V : World} {q p : Nat} {P : Option Addr} {b : Bo} {d : Dst} {t : Int}
/-- While Raise goes on: the box that holds the tag. -/
def JR2 (W0 : World) (q p : Nat) (b : Bo) (d : Dst) (t : Int) (W : World) : Prop := Bt W q (some ⟨p, 0, none⟩) b ∧ Dk W p d ∧ W.heap[W0.heap.size]? = some (.cells #[.int .i64 t] 3 (0, 0)) ∧ Tq p q W0 W
theorem JR2.drew {W0 : World} (h : JR2 W0 q p b d t W) : JR2 W0 q p b d t W.drew := ⟨h.1.carry (Below.refl _ _).drew, h.2.1.carry (Below.refl _ _).drew, h.2.2.1, h.2.2.2.trans (Tq.of _ _ (Below.refl _ _).drew)⟩
set_option maxHeartbeats 8000000 in
set_option maxRecDepth 100000 in
theorem raise_any {Wi : World} (h : Bt Wi q (some ⟨p, 0, none⟩) b) (hd : Dk Wi p d) (hf : Fz d) (hw0 : 0 ≤ d.writes) (hw : d.writes ≤ 4611686018427387903) (t : Int) : Calls Try.prog 22 #[.pointer (some ⟨q, 0, none⟩), .int .i64 t] Wi fun e w' => e = .returned (.int .i64 (dRa d b t).e) ∧ Dk w' p (dRa d b t).d ∧ Bt w' q (some ⟨p, 0, none⟩) (dRa d b t).b ∧ Tq p q Wi w' := by
  have hmx : Try.prog.follows .mixedOrders = true := by kernel_rfl
  obtain ⟨w1, hw1⟩ : ∃ w1, Wi.alloc (.cells #[.int .i64 t] 3) = w1 := ⟨_, rfl⟩
  have hb1 : Below Wi.heap.size Wi w1 := by rw [← hw1]; exact al1' _ _
  have hx1 : w1.heap[Wi.heap.size]? = some (.cells #[.int .i64 t] 3 (0, 0)) := by rw [← hw1]; exact new_at rfl
  have cx1 := cell_at hx1 0
  simp at cx1
  have h1 := h.carry hb1
  have hd1 := hd.carry hb1
  have hre := ready_any h1 hd1
  have hq0 := lt_at h
  have hp0 := hd.lt
  by_cases ho : d.off = true
  case pos =>
    rw [if_pos ho] at hre
    rw [dRa, if_pos ho]
    go_enter Try.func22, Try.ntmps22
    go_wp2_with (go_at_call 28; (with_reducible refine hre.mono ?_); rintro e u ⟨rfl, hu⟩; obtain rfl := hu.symm)
    go_ret
    exact ⟨rfl, hd1, h1, Tq.of _ _ hb1⟩
  rw [if_neg ho] at hre
  by_cases hn : t < 0
  case pos =>
    rw [dRa, if_neg ho, if_pos hn]
    go_enter Try.func22, Try.ntmps22
    go_wp2_with (go_at_call 28; (with_reducible refine hre.mono ?_); rintro e u ⟨rfl, hu⟩; obtain rfl := hu.symm)
    go_ret
    exact ⟨rfl, hd1, h1, Tq.of _ _ hb1⟩
  by_cases hm : 1048576 < t
  case pos =>
    rw [dRa, if_neg ho, if_neg hn, if_pos hm]
    go_enter Try.func22, Try.ntmps22
    go_wp2_with (go_at_call 28; (with_reducible refine hre.mono ?_); rintro e u ⟨rfl, hu⟩; obtain rfl := hu.symm)
    go_ret
    exact ⟨rfl, hd1, h1, Tq.of _ _ hb1⟩
  have HM : Hid (¬ 1048576 < t) := hm
  have HN : Hid (¬ t < 0) := hn
  by_cases hl : t ≤ b.ta
  case pos =>
    rw [dRa, if_neg ho, if_neg hn, if_neg hm, if_pos hl]
    go_enter Try.func22, Try.ntmps22
    go_wp2_with (go_at_call 28; (with_reducible refine hre.mono ?_); rintro e u ⟨rfl, hu⟩; obtain rfl := hu.symm)
    rename_i hK
    refine wp_region_any hmx ?_
    refine wpAny_pure (fun i__ => ([(.int .i64 t), (.pointer (some ⟨q, 0, none⟩)), (.pointer (some ⟨q, 0, none⟩)), (.pointer (some ⟨q, 5, none⟩)), (.int .i64 b.ta), (.bool true)] : List Value).getD i__ undef) (JR2 Wi q p b d t) (by kernel_rfl) (JR2.drew ⟨h1, hd1, hx1, Tq.of _ _ hb1⟩) ?_ ?_
    · refine (stepsFrom_cons ?_ (stepsFrom_cons ?_ (stepsFrom_cons ?_ (stepsFrom_cons ?_ (stepsFrom_cons ?_ (stepsFrom_cons ?_ trivial))))))
      · exact step_load rfl trivial _ _ _ rfl rfl (fun v hw => load_i64 (by rw [cell_at hw.2.2.1]; rfl))
      · exact step_move rfl trivial _ rfl (by kernel_rfl)
      · exact step_nilCheck rfl trivial _ _ _ rfl rfl rfl
      · exact step_fieldAddr rfl trivial _ _ _ _ rfl rfl (fun v hw => (field_bt v _).2.2)
      · exact step_load rfl trivial _ _ _ rfl rfl (fun v hw => load_i64 hw.1.c.2.2.2.2)
      · exact step_binOp rfl trivial _ _ _ _ _ _ _ rfl rfl rfl (fun v hw => by have e1 : decide (t ≤ b.ta) = true := decide_eq_true hl; rw [← e1]; exact bin_leq _ _ _)
    intro W hW
    first | refine hK _ _ ?_ | refine (‹∀ (a : Act) (w : World), Code.wp Try.prog _ _ a w → _›) _ _ ?_
    simp only [finL, List.getD_cons_zero, List.getD_cons_succ, Nat.zero_add, Nat.reduceAdd, List.setIfInBounds_toArray, List.set_cons_zero, List.set_cons_succ]
    clear hK
    go_wp2
    go_ret
    exact ⟨rfl, hW.2.1, hW.1, hW.2.2.2⟩
  have HL : Hid (¬ t ≤ b.ta) := hl
  by_cases hg : b.r.ta < t
  case neg =>
    have HG : Hid (¬ b.r.ta < t) := hg
    rw [dRa, if_neg ho, if_neg hn, if_neg hm, if_neg hl, if_neg hg]
    clear hl hg
    go_enter Try.func22, Try.ntmps22
    go_wp2_with (go_at_call 28; (with_reducible refine hre.mono ?_); rintro e u ⟨rfl, hu⟩; obtain rfl := hu.symm)
    rename_i hK
    refine wp_region_any hmx ?_
    refine wpAny_pure (fun i__ => ([(.int .i64 t), (.pointer (some ⟨q, 0, none⟩)), (.pointer (some ⟨q, 0, none⟩)), (.pointer (some ⟨q, 5, none⟩)), (.int .i64 b.ta), (.bool false)] : List Value).getD i__ undef) (JR2 Wi q p b d t) (by kernel_rfl) (JR2.drew ⟨h1, hd1, hx1, Tq.of _ _ hb1⟩) ?_ ?_
    · refine (stepsFrom_cons ?_ (stepsFrom_cons ?_ (stepsFrom_cons ?_ (stepsFrom_cons ?_ (stepsFrom_cons ?_ (stepsFrom_cons ?_ trivial))))))
      · exact step_load rfl trivial _ _ _ rfl rfl (fun v hw => load_i64 (by rw [cell_at hw.2.2.1]; rfl))
      · exact step_move rfl trivial _ rfl (by kernel_rfl)
      · exact step_nilCheck rfl trivial _ _ _ rfl rfl rfl
      · exact step_fieldAddr rfl trivial _ _ _ _ rfl rfl (fun v hw => (field_bt v _).2.2)
      · exact step_load rfl trivial _ _ _ rfl rfl (fun v hw => load_i64 hw.1.c.2.2.2.2)
      · exact step_binOp rfl trivial _ _ _ _ _ _ _ rfl rfl rfl (fun v hw => by have e1 : decide (t ≤ b.ta) = false := decide_eq_false (by have := HL.out; omega); rw [← e1]; exact bin_leq _ _ _)
    intro W hW
    first | refine hK _ _ ?_ | refine (‹∀ (a : Act) (w : World), Code.wp Try.prog _ _ a w → _›) _ _ ?_
    simp only [finL, List.getD_cons_zero, List.getD_cons_succ, Nat.zero_add, Nat.reduceAdd, List.setIfInBounds_toArray, List.set_cons_zero, List.set_cons_succ]
    clear hK
    have hW8 := hW
    clear hW
    go_wp2
    rename_i hK
    refine wp_region_any hmx ?_
    refine wpAny_pure (fun i__ => ([(.int .i64 t), (.pointer (some ⟨q, 0, none⟩)), (.pointer (some ⟨q, 0, none⟩)), (.pointer (some ⟨q, 0, none⟩)), (.pointer (some ⟨q, 0, none⟩)), (.pointer (some ⟨q, 2, none⟩)), (.int .i64 b.r.ta), (.bool false)] : List Value).getD i__ undef) (JR2 Wi q p b d t) (by kernel_rfl) hW8.drew ?_ ?_
    · refine (stepsFrom_cons ?_ (stepsFrom_cons ?_ (stepsFrom_cons ?_ (stepsFrom_cons ?_ (stepsFrom_cons ?_ (stepsFrom_cons ?_ (stepsFrom_cons ?_ (stepsFrom_cons ?_ trivial))))))))
      · exact step_load rfl trivial _ _ _ rfl rfl (fun v hw => load_i64 (by rw [cell_at hw.2.2.1]; rfl))
      · exact step_move rfl trivial _ rfl (by kernel_rfl)
      · exact step_nilCheck rfl trivial _ _ _ rfl rfl rfl
      · exact step_fieldAddr rfl trivial _ _ _ _ rfl rfl (fun v hw => (field_bt v _).1)
      · exact step_fieldAddr rfl trivial _ _ _ _ rfl rfl (fun v hw => (field_res v _).1)
      · exact step_fieldAddr rfl trivial _ _ _ _ rfl rfl (fun v hw => (field_R v _).2.2)
      · exact step_load rfl trivial _ _ _ rfl rfl (fun v hw => load_i64 hw.1.c.2.2.1)
      · exact step_binOp rfl trivial _ _ _ _ _ _ _ rfl rfl rfl (fun v hw => by have e1 : decide (t > b.r.ta) = false := decide_eq_false (by have := HG.out; omega); rw [← e1]; exact bin_gtr _ _ _)
    intro W hW
    first | refine hK _ _ ?_ | refine (‹∀ (a : Act) (w : World), Code.wp Try.prog _ _ a w → _›) _ _ ?_
    simp only [finL, List.getD_cons_zero, List.getD_cons_succ, Nat.zero_add, Nat.reduceAdd, List.setIfInBounds_toArray, List.set_cons_zero, List.set_cons_succ]
    clear hK hW8
    have cx := cell_at hW.2.2.1 0
    simp at cx
    have c5 := hW.1.c.2.2.2.2
    have t5 := thaw_at hW.1 5
    obtain ⟨hB2, hT2⟩ := hW.1.set5 t
    have hD2 := Dk.tq hW.1 hW.2.1 hT2
    obtain ⟨Y, hY⟩ : ∃ Y, W.setCell ⟨q, 5, none⟩ (.int .i64 t) = Y := ⟨_, rfl⟩
    rw [hY] at hB2 hT2 hD2
    go_wp2
    go_ret
    exact ⟨rfl, hD2, hB2, hW.2.2.2.trans (Tq.tp2 _ hT2)⟩
  have HG : Hid (b.r.ta < t) := hg
  rw [dRa, if_neg ho, if_neg hn, if_neg hm, if_neg hl, if_pos hg]
  obtain ⟨E, hE⟩ : ∃ E, (dSv d (rRa b t)).1 = E := ⟨_, rfl⟩
  obtain ⟨D1, hD1⟩ : ∃ D1, (dSv d (rRa b t)).2 = D1 := ⟨_, rfl⟩
  have HE : Hid ((dSv d (rRa b t)).1 = E) := hE
  have HD : Hid ((dSv d (rRa b t)).2 = D1) := hD1
  rw [hE, hD1]
  clear hE hD1 hl hg
  go_enter Try.func22, Try.ntmps22
  go_wp2_with (go_at_call 28; (with_reducible refine hre.mono ?_); rintro e u ⟨rfl, hu⟩; obtain rfl := hu.symm)
  rename_i hK
  refine wp_region_any hmx ?_
  refine wpAny_pure (fun i__ => ([(.int .i64 t), (.pointer (some ⟨q, 0, none⟩)), (.pointer (some ⟨q, 0, none⟩)), (.pointer (some ⟨q, 5, none⟩)), (.int .i64 b.ta), (.bool false)] : List Value).getD i__ undef) (JR2 Wi q p b d t) (by kernel_rfl) (JR2.drew ⟨h1, hd1, hx1, Tq.of _ _ hb1⟩) ?_ ?_
  · refine (stepsFrom_cons ?_ (stepsFrom_cons ?_ (stepsFrom_cons ?_ (stepsFrom_cons ?_ (stepsFrom_cons ?_ (stepsFrom_cons ?_ trivial))))))
    · exact step_load rfl trivial _ _ _ rfl rfl (fun v hw => load_i64 (by rw [cell_at hw.2.2.1]; rfl))
    · exact step_move rfl trivial _ rfl (by kernel_rfl)
    · exact step_nilCheck rfl trivial _ _ _ rfl rfl rfl
    · exact step_fieldAddr rfl trivial _ _ _ _ rfl rfl (fun v hw => (field_bt v _).2.2)
    · exact step_load rfl trivial _ _ _ rfl rfl (fun v hw => load_i64 hw.1.c.2.2.2.2)
    · exact step_binOp rfl trivial _ _ _ _ _ _ _ rfl rfl rfl (fun v hw => by have e1 : decide (t ≤ b.ta) = false := decide_eq_false (by have := HL.out; omega); rw [← e1]; exact bin_leq _ _ _)
  intro W hW
  first | refine hK _ _ ?_ | refine (‹∀ (a : Act) (w : World), Code.wp Try.prog _ _ a w → _›) _ _ ?_
  simp only [finL, List.getD_cons_zero, List.getD_cons_succ, Nat.zero_add, Nat.reduceAdd, List.setIfInBounds_toArray, List.set_cons_zero, List.set_cons_succ]
  clear hK
  have hW8 := hW
  clear hW
  go_wp2
  rename_i hK
  refine wp_region_any hmx ?_
  refine wpAny_pure (fun i__ => ([(.int .i64 t), (.pointer (some ⟨q, 0, none⟩)), (.pointer (some ⟨q, 0, none⟩)), (.pointer (some ⟨q, 0, none⟩)), (.pointer (some ⟨q, 0, none⟩)), (.pointer (some ⟨q, 2, none⟩)), (.int .i64 b.r.ta), (.bool true)] : List Value).getD i__ undef) (JR2 Wi q p b d t) (by kernel_rfl) hW8.drew ?_ ?_
  · refine (stepsFrom_cons ?_ (stepsFrom_cons ?_ (stepsFrom_cons ?_ (stepsFrom_cons ?_ (stepsFrom_cons ?_ (stepsFrom_cons ?_ (stepsFrom_cons ?_ (stepsFrom_cons ?_ trivial))))))))
    · exact step_load rfl trivial _ _ _ rfl rfl (fun v hw => load_i64 (by rw [cell_at hw.2.2.1]; rfl))
    · exact step_move rfl trivial _ rfl (by kernel_rfl)
    · exact step_nilCheck rfl trivial _ _ _ rfl rfl rfl
    · exact step_fieldAddr rfl trivial _ _ _ _ rfl rfl (fun v hw => (field_bt v _).1)
    · exact step_fieldAddr rfl trivial _ _ _ _ rfl rfl (fun v hw => (field_res v _).1)
    · exact step_fieldAddr rfl trivial _ _ _ _ rfl rfl (fun v hw => (field_R v _).2.2)
    · exact step_load rfl trivial _ _ _ rfl rfl (fun v hw => load_i64 hw.1.c.2.2.1)
    · exact step_binOp rfl trivial _ _ _ _ _ _ _ rfl rfl rfl (fun v hw => by have e1 : decide (t > b.r.ta) = true := decide_eq_true (by have := HG.out; omega); rw [← e1]; exact bin_gtr _ _ _)
  intro W hW
  first | refine hK _ _ ?_ | refine (‹∀ (a : Act) (w : World), Code.wp Try.prog _ _ a w → _›) _ _ ?_
  simp only [finL, List.getD_cons_zero, List.getD_cons_succ, Nat.zero_add, Nat.reduceAdd, List.setIfInBounds_toArray, List.set_cons_zero, List.set_cons_succ]
  clear hK hW8
  have cx := cell_at hW.2.2.1 0
  simp at cx
  have hsv := bsave_R hW.1 hW.2.1 hf hw0 hw (raise1_any b.r hW.2.2.1 (by have h1 := HM.out; have h2 := HN.out; omega))
  change Calls Try.prog _ _ W (fun e w' => e = .returned (.int .i64 (dSv d (rRa b t)).1) ∧ Dk w' p (dSv d (rRa b t)).2 ∧ Bt w' q (some ⟨p, 0, none⟩) (svB b (dSv d (rRa b t)).1 (rRa b t)) ∧ Tq p q W w') at hsv
  rw [HE.out, HD.out] at hsv
  clear HE HD
  by_cases hz : E = 0
  case neg =>
    rw [svB, if_neg hz] at hsv
    go_wp2_with (go_at_call 24; (with_reducible refine hsv.mono ?_); rintro e u1 ⟨rfl, hu1, hu2, hu3⟩)
    go_ret
    exact ⟨rfl, hu1, hu2, hW.2.2.2.trans hu3⟩
  subst hz
  rw [svB, if_pos rfl] at hsv
  go_wp2_with (go_at_call 24; (with_reducible refine hsv.mono ?_); rintro e u1 ⟨rfl, hu1, hu2, hu3⟩; have c5 := hu2.c.2.2.2.2; have hx2 := (hu3.block _ (lt_at hW.2.2.1) (by omega) (by omega)).trans hW.2.2.1; have cx3 := cell_at hx2 0; simp at cx3; have t5 := thaw_at hu2 5; obtain ⟨hB2, hT2⟩ := hu2.set5 t; have hD2 := Dk.tq hu2 hu1 hT2; obtain ⟨Y, hY⟩ : ∃ Y, u1.setCell ⟨q, 5, none⟩ (.int .i64 t) = Y := ⟨_, rfl⟩; rw [hY] at hB2 hT2 hD2)
  go_ret
  exact ⟨rfl, hD2, hB2, (hW.2.2.2.trans hu3).trans (Tq.tp2 _ hT2)⟩
end
end Go.Proofs.Ytjleggnkacmbbaa
