/- The statements' look: what it answers while a life goes on. -/
import Derived.Test.YtjleggnkacmbbaaBth
namespace Go.Proofs.Ytjleggnkacmbbaa
open Go.RowKit Go.Shelf Go.Lib

/-- While a Boot is looked at. -/
def JK (w : World) (q p g : Nat) (b : Bo) (d : Dst) (V : World) : Prop := Bt V q (some ⟨p, 0, none⟩) b ∧ Dk V p d ∧ V.heap[g]? = some (.cells #[.int .i64 b.r.li, .int .i64 b.r.ro, .int .i64 b.r.ta] 36 (0, 0)) ∧ Below w.heap.size w V
theorem JK.carry {w V V' : World} {q p g : Nat} {b : Bo} {d : Dst} (h : JK w q p g b d V) (hb : Below V.heap.size V V') : JK w q p g b d V' := ⟨h.1.carry hb, h.2.1.carry hb, (hb.block _ (lt_at h.2.2.1)).trans h.2.2.1, h.2.2.2.trans (hb.mono h.2.2.2.size)⟩
set_option maxHeartbeats 8000000 in
set_option maxRecDepth 100000 in
theorem look_any {w : World} {q p n : Nat} {b : Bo} {d : Dst} (h : Bt w q (some ⟨p, 0, none⟩) b) (hd : Dk w p d) (hv : Lv d n b) (ro ta : Int) (hro : ro ≤ b.ro) (hta : ta ≤ b.ta) (what : Int) : Calls Try.prog 21 #[.int .i64 what, .pointer (some ⟨q, 0, none⟩), .pointer (some ⟨p, 0, none⟩), .int .i64 ro, .int .i64 ta] w fun e w' => e = .returned (.bool true) ∧ Below w.heap.size w w' := by
  have hmx : Try.prog.follows .mixedOrders = true := by kernel_rfl
  have hr1 := bround_any h
  have ht1 := btag_any h
  by_cases h1 : what = 1
  case pos =>
    subst h1
    go_enter Try.func21, Try.ntmps21
    go_wp2_with (go_at_call 39; (with_reducible refine hr1.mono ?_); rintro e u ⟨rfl, hu⟩; obtain rfl := hu.symm)
    go_ret
    exact ⟨rfl, Below.refl _ _⟩
  by_cases h2 : what = 2
  case pos =>
    subst h2
    go_enter Try.func21, Try.ntmps21
    go_wp2_with (go_at_call 16; (with_reducible refine ht1.mono ?_); rintro e u ⟨rfl, hu⟩; obtain rfl := hu.symm)
    go_ret
    exact ⟨rfl, Below.refl _ _⟩
  have hdu := durable_any h
  have ho := hv.ro
  have hta2 := hv.ta
  unfold rV at hdu
  have HO : Hid (0 ≤ b.ro ∧ b.ro ≤ b.r.ro) := ho
  have HT : Hid (0 ≤ b.ta ∧ b.ta ≤ b.r.ta) := hta2
  clear ho hta2 hro hta
  cases hof : d.off with
  | true =>
    go_enter Try.func21, Try.ntmps21
    go_wp2_with (go_at_call 15; (with_reducible refine hdu.mono ?_); rintro e u1 ⟨rfl, hu1⟩; obtain ⟨u2, hu2⟩ : ∃ u2, u1.alloc (.cells #[.int .i64 b.r.li, .int .i64 b.r.ro, .int .i64 b.r.ta] 36) = u2 := ⟨_, rfl⟩; have hb2 : Below w.heap.size w u2 := (by rw [← hu2]; exact bel2 hu1 (al1' _ _)); have hg2 : u2.heap[u1.heap.size]? = some (.cells #[.int .i64 b.r.li, .int .i64 b.r.ro, .int .i64 b.r.ta] 36 (0, 0)) := (by rw [← hu2]; exact new_at rfl); have hJ : JK w q p u1.heap.size b d u2 := ⟨h.carry hb2, hd.carry hb2, hg2, hb2⟩)
    rename_i hK
    refine wp_region_any hmx ?_
    refine wpAny_pure (fun i__ => ([(.pointer (some ⟨u1.heap.size, 1, none⟩)), (.int .i64 b.r.ro), (.pointer (some ⟨q, 0, none⟩)), (.int .i64 b.ro), (.bool false), (.bool false), (.pointer (some ⟨u1.heap.size, 2, none⟩)), (.int .i64 b.r.ta), (.pointer (some ⟨q, 0, none⟩)), (.int .i64 b.ta), (.bool false), (.bool false), (.bool false), (.pointer (some ⟨u1.heap.size, 0, none⟩)), (.int .i64 b.r.li), (.pointer (some ⟨q, 0, none⟩)), (.int .i64 b.r.li), (.bool false), (.bool false)] : List Value).getD i__ undef) (JK w q p u1.heap.size b d) (by kernel_rfl) (hJ.carry (Below.refl _ _).drew) ?_ ?_
    · refine (stepsFrom_cons ?_ (stepsFrom_cons ?_ (stepsFrom_cons ?_ (stepsFrom_cons ?_ (stepsFrom_cons ?_ (stepsFrom_cons ?_ (stepsFrom_cons ?_ (stepsFrom_cons ?_ (stepsFrom_cons ?_ (stepsFrom_cons ?_ (stepsFrom_cons ?_ (stepsFrom_cons ?_ (stepsFrom_cons ?_ (stepsFrom_cons ?_ (stepsFrom_cons ?_ (stepsFrom_cons ?_ (stepsFrom_cons ?_ (stepsFrom_cons ?_ (stepsFrom_cons ?_ trivial)))))))))))))))))))
      · exact step_fieldAddr rfl trivial _ _ _ _ rfl rfl (fun v hw => (field_R v _).2.1)
      · exact step_load rfl trivial _ _ _ rfl rfl (fun v hw => load_i64 (by rw [cell_at hw.2.2.1]; rfl))
      · exact step_move rfl trivial _ rfl (by kernel_rfl)
      · exact step_call rfl trivial 39 _ _ [(.pointer (some ⟨q, 0, none⟩))] rfl (by kernel_rfl) (enters_of Try.func39 (by kernel_rfl) rfl) (fun v hw => (bround_any hw.1).mono (by rintro e w' ⟨rfl, rfl⟩; exact ⟨rfl, hw⟩))
      · exact step_binOp rfl trivial _ _ _ _ _ _ _ rfl rfl rfl (fun v hw => by have e1 : decide (b.r.ro < b.ro) = false := decide_eq_false (by have := HO.out; omega); rw [← e1]; exact bin_lss _ _ _)
      · exact step_move rfl trivial _ rfl (by kernel_rfl)
      · exact step_fieldAddr rfl (by exact ⟨_, rfl, by kernel_rfl⟩) _ _ _ _ rfl rfl (fun v hw => (field_R v _).2.2)
      · exact step_load rfl (by exact ⟨_, rfl, by kernel_rfl⟩) _ _ _ rfl rfl (fun v hw => load_i64 (by rw [cell_at hw.2.2.1]; rfl))
      · exact step_move rfl (by exact ⟨_, rfl, by kernel_rfl⟩) _ rfl (by kernel_rfl)
      · exact step_call rfl (by exact ⟨_, rfl, by kernel_rfl⟩) 16 _ _ [(.pointer (some ⟨q, 0, none⟩))] rfl (by kernel_rfl) (enters_of Try.func16 (by kernel_rfl) rfl) (fun v hw => (btag_any hw.1).mono (by rintro e w' ⟨rfl, rfl⟩; exact ⟨rfl, hw⟩))
      · exact step_binOp rfl (by exact ⟨_, rfl, by kernel_rfl⟩) _ _ _ _ _ _ _ rfl rfl rfl (fun v hw => by have e1 : decide (b.r.ta < b.ta) = false := decide_eq_false (by have := HT.out; omega); rw [← e1]; exact bin_lss _ _ _)
      · exact step_pick rfl trivial _ _ _ false rfl (by kernel_rfl) (by kernel_rfl)
      · exact step_move rfl trivial _ rfl (by kernel_rfl)
      · exact step_fieldAddr rfl (by exact ⟨_, rfl, by kernel_rfl⟩) _ _ _ _ rfl rfl (fun v hw => (field_R v _).1)
      · exact step_load rfl (by exact ⟨_, rfl, by kernel_rfl⟩) _ _ _ rfl rfl (fun v hw => load_i64 (by rw [cell_at hw.2.2.1]; rfl))
      · exact step_move rfl (by exact ⟨_, rfl, by kernel_rfl⟩) _ rfl (by kernel_rfl)
      · exact step_call rfl (by exact ⟨_, rfl, by kernel_rfl⟩) 18 _ _ [(.pointer (some ⟨q, 0, none⟩))] rfl (by kernel_rfl) (enters_of Try.func18 (by kernel_rfl) rfl) (fun v hw => (life_any hw.1).mono (by rintro e w' ⟨rfl, hb⟩; exact ⟨rfl, hw.carry hb⟩))
      · exact step_binOp rfl (by exact ⟨_, rfl, by kernel_rfl⟩) _ _ _ _ _ _ _ rfl rfl rfl (fun v hw => by have e1 : (b.r.li != b.r.li) = false := (by simp); rw [← e1]; exact bin_neq _ _ _)
      · exact step_pick rfl trivial _ _ _ false rfl (by kernel_rfl) (by kernel_rfl)
    intro W hW
    first | refine hK _ _ ?_ | refine (‹∀ (a : Act) (w : World), Code.wp Try.prog _ _ a w → _›) _ _ ?_
    simp only [finL, List.getD_cons_zero, List.getD_cons_succ, Nat.zero_add, Nat.reduceAdd, List.setIfInBounds_toArray, List.set_cons_zero, List.set_cons_succ]
    clear hK hJ
    have hon := on_any hW.2.1
    rw [hof] at hon
    go_wp2_with (go_at_call 38; (with_reducible refine hon.mono ?_); rintro e u ⟨rfl, hu⟩; obtain rfl := hu.symm)
    go_ret
    exact ⟨rfl, hW.2.2.2⟩
  | false =>
    have hnt := hv.ss.nt hof
    rw [if_neg (by have := hv.n1; omega)] at hnt
    go_enter Try.func21, Try.ntmps21
    go_wp2_with (go_at_call 15; (with_reducible refine hdu.mono ?_); rintro e u1 ⟨rfl, hu1⟩; obtain ⟨u2, hu2⟩ : ∃ u2, u1.alloc (.cells #[.int .i64 b.r.li, .int .i64 b.r.ro, .int .i64 b.r.ta] 36) = u2 := ⟨_, rfl⟩; have hb2 : Below w.heap.size w u2 := (by rw [← hu2]; exact bel2 hu1 (al1' _ _)); have hg2 : u2.heap[u1.heap.size]? = some (.cells #[.int .i64 b.r.li, .int .i64 b.r.ro, .int .i64 b.r.ta] 36 (0, 0)) := (by rw [← hu2]; exact new_at rfl); have hJ : JK w q p u1.heap.size b d u2 := ⟨h.carry hb2, hd.carry hb2, hg2, hb2⟩)
    rename_i hK
    refine wp_region_any hmx ?_
    refine wpAny_pure (fun i__ => ([(.pointer (some ⟨u1.heap.size, 1, none⟩)), (.int .i64 b.r.ro), (.pointer (some ⟨q, 0, none⟩)), (.int .i64 b.ro), (.bool false), (.bool false), (.pointer (some ⟨u1.heap.size, 2, none⟩)), (.int .i64 b.r.ta), (.pointer (some ⟨q, 0, none⟩)), (.int .i64 b.ta), (.bool false), (.bool false), (.bool false), (.pointer (some ⟨u1.heap.size, 0, none⟩)), (.int .i64 b.r.li), (.pointer (some ⟨q, 0, none⟩)), (.int .i64 b.r.li), (.bool false), (.bool false)] : List Value).getD i__ undef) (JK w q p u1.heap.size b d) (by kernel_rfl) (hJ.carry (Below.refl _ _).drew) ?_ ?_
    · refine (stepsFrom_cons ?_ (stepsFrom_cons ?_ (stepsFrom_cons ?_ (stepsFrom_cons ?_ (stepsFrom_cons ?_ (stepsFrom_cons ?_ (stepsFrom_cons ?_ (stepsFrom_cons ?_ (stepsFrom_cons ?_ (stepsFrom_cons ?_ (stepsFrom_cons ?_ (stepsFrom_cons ?_ (stepsFrom_cons ?_ (stepsFrom_cons ?_ (stepsFrom_cons ?_ (stepsFrom_cons ?_ (stepsFrom_cons ?_ (stepsFrom_cons ?_ (stepsFrom_cons ?_ trivial)))))))))))))))))))
      · exact step_fieldAddr rfl trivial _ _ _ _ rfl rfl (fun v hw => (field_R v _).2.1)
      · exact step_load rfl trivial _ _ _ rfl rfl (fun v hw => load_i64 (by rw [cell_at hw.2.2.1]; rfl))
      · exact step_move rfl trivial _ rfl (by kernel_rfl)
      · exact step_call rfl trivial 39 _ _ [(.pointer (some ⟨q, 0, none⟩))] rfl (by kernel_rfl) (enters_of Try.func39 (by kernel_rfl) rfl) (fun v hw => (bround_any hw.1).mono (by rintro e w' ⟨rfl, rfl⟩; exact ⟨rfl, hw⟩))
      · exact step_binOp rfl trivial _ _ _ _ _ _ _ rfl rfl rfl (fun v hw => by have e1 : decide (b.r.ro < b.ro) = false := decide_eq_false (by have := HO.out; omega); rw [← e1]; exact bin_lss _ _ _)
      · exact step_move rfl trivial _ rfl (by kernel_rfl)
      · exact step_fieldAddr rfl (by exact ⟨_, rfl, by kernel_rfl⟩) _ _ _ _ rfl rfl (fun v hw => (field_R v _).2.2)
      · exact step_load rfl (by exact ⟨_, rfl, by kernel_rfl⟩) _ _ _ rfl rfl (fun v hw => load_i64 (by rw [cell_at hw.2.2.1]; rfl))
      · exact step_move rfl (by exact ⟨_, rfl, by kernel_rfl⟩) _ rfl (by kernel_rfl)
      · exact step_call rfl (by exact ⟨_, rfl, by kernel_rfl⟩) 16 _ _ [(.pointer (some ⟨q, 0, none⟩))] rfl (by kernel_rfl) (enters_of Try.func16 (by kernel_rfl) rfl) (fun v hw => (btag_any hw.1).mono (by rintro e w' ⟨rfl, rfl⟩; exact ⟨rfl, hw⟩))
      · exact step_binOp rfl (by exact ⟨_, rfl, by kernel_rfl⟩) _ _ _ _ _ _ _ rfl rfl rfl (fun v hw => by have e1 : decide (b.r.ta < b.ta) = false := decide_eq_false (by have := HT.out; omega); rw [← e1]; exact bin_lss _ _ _)
      · exact step_pick rfl trivial _ _ _ false rfl (by kernel_rfl) (by kernel_rfl)
      · exact step_move rfl trivial _ rfl (by kernel_rfl)
      · exact step_fieldAddr rfl (by exact ⟨_, rfl, by kernel_rfl⟩) _ _ _ _ rfl rfl (fun v hw => (field_R v _).1)
      · exact step_load rfl (by exact ⟨_, rfl, by kernel_rfl⟩) _ _ _ rfl rfl (fun v hw => load_i64 (by rw [cell_at hw.2.2.1]; rfl))
      · exact step_move rfl (by exact ⟨_, rfl, by kernel_rfl⟩) _ rfl (by kernel_rfl)
      · exact step_call rfl (by exact ⟨_, rfl, by kernel_rfl⟩) 18 _ _ [(.pointer (some ⟨q, 0, none⟩))] rfl (by kernel_rfl) (enters_of Try.func18 (by kernel_rfl) rfl) (fun v hw => (life_any hw.1).mono (by rintro e w' ⟨rfl, hb⟩; exact ⟨rfl, hw.carry hb⟩))
      · exact step_binOp rfl (by exact ⟨_, rfl, by kernel_rfl⟩) _ _ _ _ _ _ _ rfl rfl rfl (fun v hw => by have e1 : (b.r.li != b.r.li) = false := (by simp); rw [← e1]; exact bin_neq _ _ _)
      · exact step_pick rfl trivial _ _ _ false rfl (by kernel_rfl) (by kernel_rfl)
    intro W hW
    first | refine hK _ _ ?_ | refine (‹∀ (a : Act) (w : World), Code.wp Try.prog _ _ a w → _›) _ _ ?_
    simp only [finL, List.getD_cons_zero, List.getD_cons_succ, Nat.zero_add, Nat.reduceAdd, List.setIfInBounds_toArray, List.set_cons_zero, List.set_cons_succ]
    clear hK hJ
    have hon := on_any hW.2.1
    rw [hof] at hon
    have hld := load_any hW.2.1
    rw [hnt] at hld
    unfold ldV rV at hld
    dsimp only at hld
    clear hnt
    go_wp2_with (first | (go_at_call 38; (with_reducible refine hon.mono ?_); rintro e u ⟨rfl, hu⟩; obtain rfl := hu.symm) | (go_at_call 23; (with_reducible refine hld.mono ?_); rintro e u3 ⟨rfl, hu3⟩; obtain ⟨u4, hu4⟩ : ∃ u4, u3.alloc (.cells #[.int .i64 b.r.li, .int .i64 b.r.ro, .int .i64 b.r.ta] 36) = u4 := ⟨_, rfl⟩; have hb4 : Below W.heap.size W u4 := (by rw [← hu4]; exact bel2 hu3 (al1' _ _)); have hJ4 := hW.carry hb4; have hg4 : u4.heap[u3.heap.size]? = some (.cells #[.int .i64 b.r.li, .int .i64 b.r.ro, .int .i64 b.r.ta] 36 (0, 0)) := (by rw [← hu4]; exact new_at rfl); have y0 := cell_at hJ4.2.2.1 0; have y1 := cell_at hJ4.2.2.1 1; have y2 := cell_at hJ4.2.2.1 2; have z0 := cell_at hg4 0; have z1 := cell_at hg4 1; have z2 := cell_at hg4 2; simp at y0 y1 y2 z0 z1 z2))
    go_ret
    exact ⟨rfl, hJ4.2.2.2⟩
end Go.Proofs.Ytjleggnkacmbbaa
