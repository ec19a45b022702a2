/- boot's Next and Raise: what they answer. -/
import Derived.Test.YtjleggnkacmbbaaBtd
namespace Go.Proofs.Ytjleggnkacmbbaa
open Go.RowKit Go.Shelf Go.Lib

/-- What a Boot's numbers may be. -/
def OkB (b : Bo) : Prop := (0 ≤ b.r.li ∧ b.r.li ≤ 1073741824) ∧ (0 ≤ b.r.ro ∧ b.r.ro ≤ 1099511627775) ∧ (0 ≤ b.r.ta ∧ b.r.ta ≤ 1048576) ∧ (0 ≤ b.ro ∧ b.ro ≤ 1099511627775) ∧ 0 ≤ b.ta ∧ b.ta ≤ 1048576
def rNx (b : Bo) : Rec := ⟨b.r.li, bR b.ro, b.r.ta⟩
def rRa (b : Bo) (t : Int) : Rec := ⟨b.r.li, b.r.ro, bT (t - 1)⟩
/-- Next: the round, the error, the disk and the Boot behind it. -/
structure Nx where
  x : Int
  e : Int
  d : Dst
  b : Bo
def dNx (d : Dst) (b : Bo) : Nx :=
  if d.off = true then ⟨0, 100, d, b⟩ else if b.ro = 1099511627775 then ⟨0, 120, d, b⟩ else if b.ro = b.r.ro then (if (dSv d (rNx b)).1 = 0 then ⟨b.ro + 1, 0, (dSv d (rNx b)).2, ⟨rNx b, b.ro + 1, b.ta⟩⟩ else ⟨0, (dSv d (rNx b)).1, (dSv d (rNx b)).2, b⟩) else ⟨b.ro + 1, 0, d, ⟨b.r, b.ro + 1, b.ta⟩⟩
/-- Raise: the error, the disk and the Boot behind it. -/
structure Ra where
  e : Int
  d : Dst
  b : Bo
def dRa (d : Dst) (b : Bo) (t : Int) : Ra :=
  if d.off = true then ⟨100, d, b⟩ else if t < 0 then ⟨1, d, b⟩ else if 1048576 < t then ⟨120, d, b⟩ else if t ≤ b.ta then ⟨0, d, b⟩ else if b.r.ta < t then (if (dSv d (rRa b t)).1 = 0 then ⟨0, (dSv d (rRa b t)).2, ⟨rRa b t, b.ro, t⟩⟩ else ⟨(dSv d (rRa b t)).1, (dSv d (rRa b t)).2, b⟩) else ⟨0, d, ⟨b.r, b.ro, t⟩⟩
section
variable {W V : World} {q p : Nat} {P : Option Addr} {b : Bo} {d : Dst}
theorem Bt.set4 (h : Bt W q P b) (x : Int) : Bt (W.setCell ⟨q, 4, none⟩ (.int .i64 x)) q P ⟨b.r, x, b.ta⟩ ∧ Tp q W (W.setCell ⟨q, 4, none⟩ (.int .i64 x)) := ⟨heap_setCell_same _ _ _ _ _ _ h, Tp.set _ _ _ _⟩
theorem Bt.set5 (h : Bt W q P b) (x : Int) : Bt (W.setCell ⟨q, 5, none⟩ (.int .i64 x)) q P ⟨b.r, b.ro, x⟩ ∧ Tp q W (W.setCell ⟨q, 5, none⟩ (.int .i64 x)) := ⟨heap_setCell_same _ _ _ _ _ _ h, Tp.set _ _ _ _⟩
theorem Bt.c (h : Bt W q P b) : W.cell? ⟨q, 0, none⟩ = some (.int .i64 b.r.li) ∧ W.cell? ⟨q, 1, none⟩ = some (.int .i64 b.r.ro) ∧ W.cell? ⟨q, 2, none⟩ = some (.int .i64 b.r.ta) ∧ W.cell? ⟨q, 4, none⟩ = some (.int .i64 b.ro) ∧ W.cell? ⟨q, 5, none⟩ = some (.int .i64 b.ta) := ⟨cell_at h 0, cell_at h 1, cell_at h 2, cell_at h 4, cell_at h 5⟩
theorem field_bt (W : World) (B : Nat) : (Instr.fieldAt 57 (.pointer (some ⟨B, 0, none⟩)) 0).run Try.prog W = .ok (.pointer (some ⟨B, 0, none⟩)) W ∧ (Instr.fieldAt 57 (.pointer (some ⟨B, 0, none⟩)) 1).run Try.prog W = .ok (.pointer (some ⟨B, 4, none⟩)) W ∧ (Instr.fieldAt 57 (.pointer (some ⟨B, 0, none⟩)) 2).run Try.prog W = .ok (.pointer (some ⟨B, 5, none⟩)) W := by
  refine ⟨?_, ?_, ?_⟩ <;> go_simp
theorem load_pB {B : Nat} (h : W.heap[B]? = some (.cells #[.pointer (some ⟨q, 0, none⟩)] 28 (0, 0))) : (Instr.loadAt 28 (.pointer (some ⟨B, 0, none⟩))).run Try.prog W = .ok (.pointer (some ⟨q, 0, none⟩)) W := by
  have c := cell_at h 0
  simp at c
  go_simp
/-- While Next goes on: the box that holds the Boot's pointer. -/
def JN2 (W0 : World) (q p : Nat) (b : Bo) (d : Dst) (W : World) : Prop := Bt W q (some ⟨p, 0, none⟩) b ∧ Dk W p d ∧ W.heap[W0.heap.size]? = some (.cells #[.pointer (some ⟨q, 0, none⟩)] 28 (0, 0)) ∧ Tq p q W0 W
theorem JN2.drew {W0 : World} (h : JN2 W0 q p b d W) : JN2 W0 q p b d W.drew := ⟨h.1.carry (Below.refl _ _).drew, h.2.1.carry (Below.refl _ _).drew, h.2.2.1, h.2.2.2.trans (Tq.of _ _ (Below.refl _ _).drew)⟩
set_option maxHeartbeats 8000000 in
set_option maxRecDepth 100000 in
theorem next_any {Wi : World} (h : Bt Wi q (some ⟨p, 0, none⟩) b) (hd : Dk Wi p d) (hk : OkB b) (hf : Fz d) (hw0 : 0 ≤ d.writes) (hw : d.writes ≤ 4611686018427387903) : Calls Try.prog 13 #[.pointer (some ⟨q, 0, none⟩)] Wi fun e w' => e = .returned (.tuple #[.int .i64 (dNx d b).x, .int .i64 (dNx d b).e]) ∧ Dk w' p (dNx d b).d ∧ Bt w' q (some ⟨p, 0, none⟩) (dNx d b).b ∧ Tq p q Wi w' := by
  have hmx : Try.prog.follows .mixedOrders = true := by kernel_rfl
  obtain ⟨w1, hw1⟩ : ∃ w1, Wi.alloc (.cells #[.pointer (some ⟨q, 0, none⟩)] 28) = w1 := ⟨_, rfl⟩
  have hb1 : Below Wi.heap.size Wi w1 := by rw [← hw1]; exact al1' _ _
  have hx1 : w1.heap[Wi.heap.size]? = some (.cells #[.pointer (some ⟨q, 0, none⟩)] 28 (0, 0)) := by rw [← hw1]; exact new_at rfl
  have cx1 := cell_at hx1 0
  simp at cx1
  have h1 := h.carry hb1
  have hd1 := hd.carry hb1
  have hre := ready_any h1 hd1
  have hq0 := lt_at h
  have hp0 := hd.lt
  by_cases ho : d.off = true
  case pos =>
    rw [if_pos ho] at hre
    rw [dNx, if_pos ho]
    go_enter Try.func13, Try.ntmps13
    go_wp2_with (go_at_call 28; (with_reducible refine hre.mono ?_); rintro e u ⟨rfl, hu⟩; obtain rfl := hu.symm)
    go_ret2
    exact ⟨rfl, hd1, h1, Tq.of _ _ hb1⟩
  rw [if_neg ho] at hre
  obtain ⟨q0, q1, q2, q4, q5⟩ := h1.c
  by_cases hm : b.ro = 1099511627775
  case pos =>
    rw [dNx, if_neg ho, if_pos hm]
    rw [hm] at q4
    go_enter Try.func13, Try.ntmps13
    go_wp2_with (go_at_call 28; (with_reducible refine hre.mono ?_); rintro e u ⟨rfl, hu⟩; obtain rfl := hu.symm)
    go_ret2
    exact ⟨rfl, hd1, h1, Tq.of _ _ hb1⟩
  have hwi := i64_id (b.ro + 1) (by have := hk.2.2.2.1; omega) (by have := hk.2.2.2.1; omega)
  by_cases he : b.ro = b.r.ro
  case neg =>
    rw [dNx, if_neg ho, if_neg hm, if_neg he]
    go_enter Try.func13, Try.ntmps13
    go_wp2_with (go_at_call 28; (with_reducible refine hre.mono ?_); rintro e u ⟨rfl, hu⟩; obtain rfl := hu.symm)
    rename_i hK
    refine wp_region_any hmx ?_
    refine wpAny_pure (fun i__ => ([(.pointer (some ⟨q, 0, none⟩)), (.pointer (some ⟨q, 0, none⟩)), (.pointer (some ⟨q, 4, none⟩)), (.int .i64 b.ro), (.pointer (some ⟨q, 0, none⟩)), (.pointer (some ⟨q, 0, none⟩)), (.pointer (some ⟨q, 0, none⟩)), (.pointer (some ⟨q, 0, none⟩)), (.pointer (some ⟨q, 1, none⟩)), (.int .i64 b.r.ro), (.bool false)] : List Value).getD i__ undef) (JN2 Wi q p b d) (by kernel_rfl) (JN2.drew ⟨h1, hd1, hx1, Tq.of _ _ hb1⟩) ?_ ?_
    · refine (stepsFrom_cons ?_ (stepsFrom_cons ?_ (stepsFrom_cons ?_ (stepsFrom_cons ?_ (stepsFrom_cons ?_ (stepsFrom_cons ?_ (stepsFrom_cons ?_ (stepsFrom_cons ?_ (stepsFrom_cons ?_ (stepsFrom_cons ?_ (stepsFrom_cons ?_ trivial)))))))))))
      · exact step_load rfl trivial _ _ _ rfl rfl (fun v hw => load_pB hw.2.2.1)
      · exact step_nilCheck rfl trivial _ _ _ rfl rfl rfl
      · exact step_fieldAddr rfl trivial _ _ _ _ rfl rfl (fun v hw => (field_bt v _).2.1)
      · exact step_load rfl trivial _ _ _ rfl rfl (fun v hw => load_i64 hw.1.c.2.2.2.1)
      · exact step_load rfl trivial _ _ _ rfl rfl (fun v hw => load_pB hw.2.2.1)
      · exact step_nilCheck rfl trivial _ _ _ rfl rfl rfl
      · exact step_fieldAddr rfl trivial _ _ _ _ rfl rfl (fun v hw => (field_bt v _).1)
      · exact step_fieldAddr rfl trivial _ _ _ _ rfl rfl (fun v hw => (field_res v _).1)
      · exact step_fieldAddr rfl trivial _ _ _ _ rfl rfl (fun v hw => (field_R v _).2.1)
      · exact step_load rfl trivial _ _ _ rfl rfl (fun v hw => load_i64 hw.1.c.2.1)
      · exact step_binOp rfl trivial _ _ _ _ _ _ _ rfl rfl rfl (fun v hw => by have e1 : (b.ro == b.r.ro) = false := beq_eq_false_iff_ne.2 he; rw [← e1]; exact bin_eql _ _ _)
    intro W hW
    first | refine hK _ _ ?_ | refine (‹∀ (a : Act) (w : World), Code.wp Try.prog _ _ a w → _›) _ _ ?_
    simp only [finL, List.getD_cons_zero, List.getD_cons_succ, Nat.zero_add, Nat.reduceAdd, List.setIfInBounds_toArray, List.set_cons_zero, List.set_cons_succ]
    clear hK q0 q1 q2 q4 q5
    obtain ⟨q0, q1, q2, q4, q5⟩ := hW.1.c
    have cx := cell_at hW.2.2.1 0
    simp at cx
    have t4 := thaw_at hW.1 4
    obtain ⟨hB2, hT2⟩ := hW.1.set4 (b.ro + 1)
    have hD2 := Dk.tq hW.1 hW.2.1 hT2
    have cx2 := cell_at ((hT2.block _ (lt_at hW.2.2.1) (by omega)).trans hW.2.2.1) 0
    simp at cx2
    have q4' := hB2.c.2.2.2.1
    obtain ⟨V, hV⟩ : ∃ V, W.setCell ⟨q, 4, none⟩ (.int .i64 (b.ro + 1)) = V := ⟨_, rfl⟩
    rw [hV] at hB2 hT2 hD2 q4' cx2
    go_wp2
    go_ret2
    exact ⟨rfl, hD2, hB2, hW.2.2.2.trans (Tq.tp2 _ hT2)⟩
  rw [dNx, if_neg ho, if_neg hm, if_pos he]
  obtain ⟨E, hE⟩ : ∃ E, (dSv d (rNx b)).1 = E := ⟨_, rfl⟩
  obtain ⟨D1, hD1⟩ : ∃ D1, (dSv d (rNx b)).2 = D1 := ⟨_, rfl⟩
  have HE : Hid ((dSv d (rNx b)).1 = E) := hE
  have HD : Hid ((dSv d (rNx b)).2 = D1) := hD1
  have HH : Hid (b.ro = b.r.ro) := he
  clear he
  rw [hE, hD1]
  clear hE hD1
  go_enter Try.func13, Try.ntmps13
  go_wp2_with (go_at_call 28; (with_reducible refine hre.mono ?_); rintro e u ⟨rfl, hu⟩; obtain rfl := hu.symm)
  rename_i hK
  refine wp_region_any hmx ?_
  refine wpAny_pure (fun i__ => ([(.pointer (some ⟨q, 0, none⟩)), (.pointer (some ⟨q, 0, none⟩)), (.pointer (some ⟨q, 4, none⟩)), (.int .i64 b.ro), (.pointer (some ⟨q, 0, none⟩)), (.pointer (some ⟨q, 0, none⟩)), (.pointer (some ⟨q, 0, none⟩)), (.pointer (some ⟨q, 0, none⟩)), (.pointer (some ⟨q, 1, none⟩)), (.int .i64 b.r.ro), (.bool true)] : List Value).getD i__ undef) (JN2 Wi q p b d) (by kernel_rfl) (JN2.drew ⟨h1, hd1, hx1, Tq.of _ _ hb1⟩) ?_ ?_
  · refine (stepsFrom_cons ?_ (stepsFrom_cons ?_ (stepsFrom_cons ?_ (stepsFrom_cons ?_ (stepsFrom_cons ?_ (stepsFrom_cons ?_ (stepsFrom_cons ?_ (stepsFrom_cons ?_ (stepsFrom_cons ?_ (stepsFrom_cons ?_ (stepsFrom_cons ?_ trivial)))))))))))
    · exact step_load rfl trivial _ _ _ rfl rfl (fun v hw => load_pB hw.2.2.1)
    · exact step_nilCheck rfl trivial _ _ _ rfl rfl rfl
    · exact step_fieldAddr rfl trivial _ _ _ _ rfl rfl (fun v hw => (field_bt v _).2.1)
    · exact step_load rfl trivial _ _ _ rfl rfl (fun v hw => load_i64 hw.1.c.2.2.2.1)
    · exact step_load rfl trivial _ _ _ rfl rfl (fun v hw => load_pB hw.2.2.1)
    · exact step_nilCheck rfl trivial _ _ _ rfl rfl rfl
    · exact step_fieldAddr rfl trivial _ _ _ _ rfl rfl (fun v hw => (field_bt v _).1)
    · exact step_fieldAddr rfl trivial _ _ _ _ rfl rfl (fun v hw => (field_res v _).1)
    · exact step_fieldAddr rfl trivial _ _ _ _ rfl rfl (fun v hw => (field_R v _).2.1)
    · exact step_load rfl trivial _ _ _ rfl rfl (fun v hw => load_i64 hw.1.c.2.1)
    · exact step_binOp rfl trivial _ _ _ _ _ _ _ rfl rfl rfl (fun v hw => by have e1 : (b.ro == b.r.ro) = true := beq_iff_eq.2 HH.out; rw [← e1]; exact bin_eql _ _ _)
  intro W hW
  first | refine hK _ _ ?_ | refine (‹∀ (a : Act) (w : World), Code.wp Try.prog _ _ a w → _›) _ _ ?_
  simp only [finL, List.getD_cons_zero, List.getD_cons_succ, Nat.zero_add, Nat.reduceAdd, List.setIfInBounds_toArray, List.set_cons_zero, List.set_cons_succ]
  clear hK q0 q1 q2 q4 q5 cx1
  have cx := cell_at hW.2.2.1 0
  simp at cx
  have hsv := bsave_N hW.1 hW.2.1 hf hw0 hw (next1_any b.r hW.2.2.1 hW.1 hk.2.2.2.1)
  change Calls Try.prog _ _ W (fun e w' => e = .returned (.int .i64 (dSv d (rNx b)).1) ∧ Dk w' p (dSv d (rNx b)).2 ∧ Bt w' q (some ⟨p, 0, none⟩) (svB b (dSv d (rNx b)).1 (rNx b)) ∧ Tq p q W w') at hsv
  rw [HE.out, HD.out] at hsv
  clear HE HD
  by_cases hz : E = 0
  case neg =>
    rw [svB, if_neg hz] at hsv
    go_wp2_with (go_at_call 24; (with_reducible refine hsv.mono ?_); rintro e u1 ⟨rfl, hu1, hu2, hu3⟩)
    go_ret2
    exact ⟨rfl, hu1, hu2, hW.2.2.2.trans hu3⟩
  subst hz
  rw [svB, if_pos rfl] at hsv
  go_wp2_with (go_at_call 24; (with_reducible refine hsv.mono ?_); rintro e u1 ⟨rfl, hu1, hu2, hu3⟩; obtain ⟨q0, q1, q2, q4, q5⟩ := hu2.c; have hx2 := (hu3.block _ (lt_at hW.2.2.1) (by omega) (by omega)).trans hW.2.2.1; have cx3 := cell_at hx2 0; simp at cx3; have t4 := thaw_at hu2 4; obtain ⟨hB2, hT2⟩ := hu2.set4 (b.ro + 1); have hD2 := Dk.tq hu2 hu1 hT2; have cx2 := cell_at ((hT2.block _ (lt_at hx2) (by omega)).trans hx2) 0; simp at cx2; have q4' := hB2.c.2.2.2.1; obtain ⟨V, hV⟩ : ∃ V, u1.setCell ⟨q, 4, none⟩ (.int .i64 (b.ro + 1)) = V := ⟨_, rfl⟩; rw [hV] at hB2 hT2 hD2 q4' cx2)
  go_ret2
  exact ⟨rfl, hD2, hB2, (hW.2.2.2.trans hu3).trans (Tq.tp2 _ hT2)⟩
end
end Go.Proofs.Ytjleggnkacmbbaa
