/- One step of the play: Fuse, Cut, Restore, a look, nothing. -/
import Derived.Test.YtkbeoliglnikiaaGreatDse
namespace Go.Proofs.YtkbeoliglnikiaaGreat
open Go.RowKit Go.Shelf

/-- What is to be done, in a box. -/
def OpB (W : World) (b : Nat) (k who a : Int) (v : Value) : Prop := W.heap[b]? = some (.cells #[.int .i64 k, .int .i64 who, .int .i64 a, v] 61 (0, 0))
theorem OpB.c0 {W : World} {b : Nat} {k who a : Int} {v : Value} (h : OpB W b k who a v) : W.cell? ⟨b, 0, none⟩ = some (.int .i64 k) := cell_at h 0
theorem OpB.c2 {W : World} {b : Nat} {k who a : Int} {v : Value} (h : OpB W b k who a v) : W.cell? ⟨b, 2, none⟩ = some (.int .i64 a) := cell_at h 2
theorem OpB.c3 {W : World} {b : Nat} {k who a : Int} {v : Value} (h : OpB W b k who a v) : W.cell? ⟨b, 3, none⟩ = some v := cell_at h 3
theorem OpB.carry {W V : World} {b : Nat} {k who a : Int} {v : Value} (h : OpB W b k who a v) (hb : Below W.heap.size W V) : OpB V b k who a v := (hb.block _ (lt_at h)).trans h
theorem OpB.tp {W V : World} {b p : Nat} {k who a : Int} {v : Value} {d : Dst} (h : OpB W b k who a v) (hd : Dk W p d) (ht : Tp p W V) : OpB V b k who a v := (ht.block b (lt_at h) (fun e => by
  have h2 : W.heap[b]? = _ := h
  rw [e] at h2
  have := h2.symm.trans hd.obj
  simp only [Option.some.injEq, Obj.cells.injEq] at this
  exact absurd this.2.1 (by decide))).trans h
theorem OpB.tf {W V : World} {b lb o base r c : Nat} {k who a : Int} {v : Value} {d : Dst} (h : OpB W b k who a v) (hr : RfD W lb o base r c d) (ht : Tf lb o r W V) : OpB V b k who a v := by
  have h2 : W.heap[b]? = _ := h
  obtain ⟨cur, hl⟩ := hr.lk
  obtain ⟨_, curR, hcr⟩ := hr.rb
  refine (ht.block b (lt_at h) (fun e => ?_) (fun e => ?_)).trans h
  · rw [e] at h2
    have := h2.symm.trans hl
    simp only [Option.some.injEq, Obj.cells.injEq] at this
    exact absurd this.2.1 (by decide)
  · rw [e] at h2
    have := h2.symm.trans hcr
    simp only [Option.some.injEq, Obj.cells.injEq] at this
    exact absurd this.2.1 (by decide)
theorem field_op2 (W : World) (B : Nat) : (Instr.fieldAt 61 (.pointer (some ⟨B, 0, none⟩)) 2).run Tryz.prog W = .ok (.pointer (some ⟨B, 2, none⟩)) W := by go_simp
theorem field_op3 (W : World) (B : Nat) : (Instr.fieldAt 61 (.pointer (some ⟨B, 0, none⟩)) 3).run Tryz.prog W = .ok (.pointer (some ⟨B, 3, none⟩)) W := by go_simp
section
variable {base lb off bb p r c : Nat} {d : Dst} {w : World}
set_option maxHeartbeats 4000000 in
set_option maxRecDepth 100000 in
theorem step_3 {σ : Sg} (h : Sd σ base lb off bb p r c d w) (who a : Int) (ad : Option Addr) (n cap : Nat) : Calls Tryz.prog 12 #[.pointer (some ⟨lb, off, none⟩), .agg #[.int .i64 3, .int .i64 who, .int .i64 a, .slice ad n cap]] w fun e w' => e = .returned (.bool true) ∧ Sd σ base lb off bb p r c (dFuse d a) w' ∧ Ev base lb off p r w w' := by
  have hmx : Tryz.prog.follows .mixedOrders = true := by kernel_rfl
  obtain ⟨w1, hw1⟩ : ∃ w1, w.alloc (.cells #[.int .i64 3, .int .i64 who, .int .i64 a, .slice ad n cap] 61) = w1 := ⟨_, rfl⟩
  have hb1 : Below w.heap.size w w1 := by rw [← hw1]; exact al1' _ _
  have hO : OpB w1 w.heap.size 3 who a (.slice ad n cap) := by rw [← hw1]; exact new_at rfl
  have hS := h.carry hb1
  have o0 := hO.c0
  have hE1 : Ev base lb off p r w w1 := Ev.of _ _ _ _ hb1 h.bz
  clear h
  go_enter Tryz.func12, Tryz.ntmps12
  go_wp2
  refine wp_region_any hmx ?_
  refine wpAny_last 6 (fun i__ => ([(.pointer (some ⟨lb, off, none⟩)), (.pointer (some ⟨lb, off, none⟩)), (.pointer (some ⟨lb, off, none⟩)), (.pointer (some ⟨p, 0, none⟩)), (.pointer (some ⟨w.heap.size, 2, none⟩)), (.int .i64 a), (.tuple #[])] : List Value).getD i__ undef) (fun V => Sd σ base lb off bb p r c d V ∧ OpB V w.heap.size 3 who a (.slice ad n cap) ∧ Ev base lb off p r w V) (fun V => Sm σ base lb off bb p r c d (dFuse d a) V ∧ OpB V w.heap.size 3 who a (.slice ad n cap) ∧ Ev base lb off p r w V) rfl (by kernel_rfl) (by kernel_rfl) ⟨hS.carry (Below.refl _ _).drew, hO.carry (Below.refl _ _).drew, hE1.trans (Ev.of _ _ _ _ (Below.refl _ _).drew hS.bz)⟩ ?_ ?_  ?_
  · refine (stepsFrom_cons ?_ (stepsFrom_cons ?_ (stepsFrom_cons ?_ (stepsFrom_cons ?_ (stepsFrom_cons ?_ (stepsFrom_cons ?_ trivial))))))
    · exact step_move rfl trivial _ rfl (by kernel_rfl)
    · exact step_nilCheck rfl trivial _ _ _ rfl rfl rfl
    · exact step_fieldAddr rfl trivial _ _ _ _ rfl rfl (fun v hw => field_bo0 v _ _)
    · exact step_load rfl trivial _ _ _ rfl rfl (fun v hw => load_bop hw.1.c0)
    · exact step_fieldAddr rfl trivial _ _ _ _ rfl rfl (fun v hw => field_op2 v _)
    · exact step_load rfl trivial _ _ _ rfl rfl (fun v hw => load_boi hw.2.1.c2)
  · intro o ho
    cases ho
    exact step_call rfl trivial 27 _ _ [(.pointer (some ⟨p, 0, none⟩)), (.int .i64 a)] rfl (by kernel_rfl) (enters_of Tryz.func27 (by kernel_rfl) rfl) (fun v hw => (fuse_any hw.1.dk a).mono (by rintro e w' ⟨rfl, h2, t2⟩; exact ⟨rfl, hw.1.tp t2 h2, hw.2.1.tp hw.1.dk t2, hw.2.2.trans (Ev.tp t2 hw.1.ne hw.1.pb hw.1.bz)⟩))
  intro W hW
  first | refine hK _ _ ?_ | refine (‹∀ (a : Act) (w : World), Code.wp Tryz.prog _ _ a w → _›) _ _ ?_
  simp only [finL, List.getD_cons_zero, List.getD_cons_succ, Nat.zero_add, Nat.reduceAdd, List.setIfInBounds_toArray, List.set_cons_zero, List.set_cons_succ]
  clear hS hO o0 hE1 hw1 hb1
  obtain ⟨hS2, hO2, hE2⟩ := hW
  go_wp2
  refine wp_region_any hmx ?_
  refine wpAny_last 5 (fun i__ => ([(.pointer (some ⟨lb, off, none⟩)), (.pointer (some ⟨lb, off, none⟩)), (.pointer (some ⟨lb, off + 1, none⟩)), (.pointer (some ⟨w.heap.size, 2, none⟩)), (.int .i64 a), (.tuple #[])] : List Value).getD i__ undef) (fun V => Sm σ base lb off bb p r c d (dFuse d a) V ∧ OpB V w.heap.size 3 who a (.slice ad n cap) ∧ Ev base lb off p r w V) (fun V => Sd σ base lb off bb p r c (dFuse d a) V ∧ Ev base lb off p r w V) rfl (by kernel_rfl) (by kernel_rfl) ⟨hS2.carry (Below.refl _ _).drew, hO2.carry (Below.refl _ _).drew, hE2.trans (Ev.of _ _ _ _ (Below.refl _ _).drew hS2.bz)⟩ ?_ ?_  ?_
  · refine (stepsFrom_cons ?_ (stepsFrom_cons ?_ (stepsFrom_cons ?_ (stepsFrom_cons ?_ (stepsFrom_cons ?_ trivial)))))
    · exact step_move rfl trivial _ rfl (by kernel_rfl)
    · exact step_nilCheck rfl trivial _ _ _ rfl rfl rfl
    · exact step_fieldAddr rfl trivial _ _ _ _ rfl rfl (fun v hw => field_bo1 v _ _)
    · exact step_fieldAddr rfl trivial _ _ _ _ rfl rfl (fun v hw => field_op2 v _)
    · exact step_load rfl trivial _ _ _ rfl rfl (fun v hw => load_boi hw.2.1.c2)
  · intro o ho
    cases ho
    exact step_call rfl trivial 28 _ _ [(.pointer (some ⟨lb, off + 1, none⟩)), (.int .i64 a)] rfl (by kernel_rfl) (enters_of Tryz.func28 (by kernel_rfl) rfl) (fun v hw => (rset_any hw.1.rf a).mono (by rintro e w' ⟨rfl, h2, t2⟩; exact ⟨rfl, hw.1.tf t2 h2, hw.2.2.trans (Ev.tf t2 hw.1.lb0 hw.1.rf.rb.1 hw.1.bz)⟩))
  intro W hW
  first | refine hK _ _ ?_ | refine (‹∀ (a : Act) (w : World), Code.wp Tryz.prog _ _ a w → _›) _ _ ?_
  simp only [finL, List.getD_cons_zero, List.getD_cons_succ, Nat.zero_add, Nat.reduceAdd, List.setIfInBounds_toArray, List.set_cons_zero, List.set_cons_succ]
  obtain ⟨hS3, hE3⟩ := hW
  go_wp2
  go_ret
  exact ⟨rfl, hS3, hE3⟩
set_option maxHeartbeats 4000000 in
set_option maxRecDepth 100000 in
theorem step_4 {σ : Sg} (h : Sd σ base lb off bb p r c d w) (who a : Int) (ad : Option Addr) (n cap : Nat) : Calls Tryz.prog 12 #[.pointer (some ⟨lb, off, none⟩), .agg #[.int .i64 4, .int .i64 who, .int .i64 a, .slice ad n cap]] w fun e w' => e = .returned (.bool true) ∧ Sd σ base lb off bb p r c { d with off := true } w' ∧ Ev base lb off p r w w' := by
  obtain ⟨w1, hw1⟩ : ∃ w1, w.alloc (.cells #[.int .i64 4, .int .i64 who, .int .i64 a, .slice ad n cap] 61) = w1 := ⟨_, rfl⟩
  have hb1 : Below w.heap.size w w1 := by rw [← hw1]; exact al1' _ _
  have hO : OpB w1 w.heap.size 4 who a (.slice ad n cap) := by rw [← hw1]; exact new_at rfl
  have hS := h.carry hb1
  have o0 := hO.c0
  have c0 := hS.c0
  have hcu := cut_any hS.dk
  have hE1 : Ev base lb off p r w w1 := Ev.of _ _ _ _ hb1 h.bz
  clear h
  go_enter Tryz.func12, Tryz.ntmps12
  go_wp2_with (go_at_call 29; (with_reducible refine hcu.mono ?_); rintro e u2 ⟨rfl, h2, t2⟩; have hS2 := hS.tp t2 h2; have hE2 : Ev base lb off p r w u2 := hE1.trans (Ev.tp t2 hS.ne hS.pb hS.bz); have f2 := hS2.rf.f; have z2 := hS2.rf.zaw (off + 1 + 1); have HT : Hid (Tf lb (off + 1) r u2 (u2.setCell ⟨lb, off + 1 + 1, none⟩ (.bool true))) := Tf.set _ _ _ _ _ _ (by omega) (by omega); have HF : Hid (Sd σ base lb off bb p r c { d with off := true } (u2.setCell ⟨lb, off + 1 + 1, none⟩ (.bool true))) := hS2.tf HT.out (hS2.rf.set1 true); have HE : Hid (Ev base lb off p r w (u2.setCell ⟨lb, off + 1 + 1, none⟩ (.bool true))) := hE2.trans (Ev.tf HT.out hS2.lb0 hS2.rf.rb.1 hS2.bz))
  go_ret
  exact ⟨rfl, HF.out, HE.out⟩
set_option maxHeartbeats 4000000 in
set_option maxRecDepth 100000 in
theorem step_5 {σ : Sg} (h : Sd σ base lb off bb p r c d w) (who a : Int) (ad : Option Addr) (n cap : Nat) : Calls Tryz.prog 12 #[.pointer (some ⟨lb, off, none⟩), .agg #[.int .i64 5, .int .i64 who, .int .i64 a, .slice ad n cap]] w fun e w' => e = .returned (.bool true) ∧ Sd σ base lb off bb p r c { d with off := false } w' ∧ Ev base lb off p r w w' := by
  obtain ⟨w1, hw1⟩ : ∃ w1, w.alloc (.cells #[.int .i64 5, .int .i64 who, .int .i64 a, .slice ad n cap] 61) = w1 := ⟨_, rfl⟩
  have hb1 : Below w.heap.size w w1 := by rw [← hw1]; exact al1' _ _
  have hO : OpB w1 w.heap.size 5 who a (.slice ad n cap) := by rw [← hw1]; exact new_at rfl
  have hS := h.carry hb1
  have o0 := hO.c0
  have c0 := hS.c0
  have hcu := restore_any hS.dk
  have hE1 : Ev base lb off p r w w1 := Ev.of _ _ _ _ hb1 h.bz
  clear h
  go_enter Tryz.func12, Tryz.ntmps12
  go_wp2_with (go_at_call 30; (with_reducible refine hcu.mono ?_); rintro e u2 ⟨rfl, h2, t2⟩; have hS2 := hS.tp t2 h2; have hE2 : Ev base lb off p r w u2 := hE1.trans (Ev.tp t2 hS.ne hS.pb hS.bz); have f2 := hS2.rf.f; have z2 := hS2.rf.zaw (off + 1 + 1); have HT : Hid (Tf lb (off + 1) r u2 (u2.setCell ⟨lb, off + 1 + 1, none⟩ (.bool false))) := Tf.set _ _ _ _ _ _ (by omega) (by omega); have HF : Hid (Sd σ base lb off bb p r c { d with off := false } (u2.setCell ⟨lb, off + 1 + 1, none⟩ (.bool false))) := hS2.tf HT.out (hS2.rf.set1 false); have HE : Hid (Ev base lb off p r w (u2.setCell ⟨lb, off + 1 + 1, none⟩ (.bool false))) := hE2.trans (Ev.tf HT.out hS2.lb0 hS2.rf.rb.1 hS2.bz))
  go_ret
  exact ⟨rfl, HF.out, HE.out⟩
set_option maxHeartbeats 4000000 in
set_option maxRecDepth 100000 in
theorem step_7 {σ : Sg} (h : Sd σ base lb off bb p r c d w) (who a : Int) (ad : Option Addr) (n cap : Nat) : Calls Tryz.prog 12 #[.pointer (some ⟨lb, off, none⟩), .agg #[.int .i64 7, .int .i64 who, .int .i64 a, .slice ad n cap]] w fun e w' => e = .returned (.bool true) ∧ Sd σ base lb off bb p r c d w' ∧ Ev base lb off p r w w' := by
  obtain ⟨w1, hw1⟩ : ∃ w1, w.alloc (.cells #[.int .i64 7, .int .i64 who, .int .i64 a, .slice ad n cap] 61) = w1 := ⟨_, rfl⟩
  have hb1 : Below w.heap.size w w1 := by rw [← hw1]; exact al1' _ _
  have hO : OpB w1 w.heap.size 7 who a (.slice ad n cap) := by rw [← hw1]; exact new_at rfl
  have hS := h.carry hb1
  have o0 := hO.c0
  have hlo := looks_any hS
  have hE1 : Ev base lb off p r w w1 := Ev.of _ _ _ _ hb1 h.bz
  clear h
  go_enter Tryz.func12, Tryz.ntmps12
  go_wp2_with (go_at_call 13; (with_reducible refine hlo.mono ?_); rintro e u2 ⟨rfl, hn2, hk2⟩)
  go_ret
  exact ⟨rfl, hS.kp hk2 hn2, hE1.trans (Ev.kp hk2 hS.nk hS.bz)⟩
set_option maxHeartbeats 4000000 in
set_option maxRecDepth 100000 in
theorem step_0 {σ : Sg} (h : Sd σ base lb off bb p r c d w) (k who a : Int) (ad : Option Addr) (n cap : Nat) (h1 : ¬ k = 1) (h2 : ¬ k = 2) (h3 : ¬ k = 3) (h4 : ¬ k = 4) (h5 : ¬ k = 5) (h7 : ¬ k = 7) : Calls Tryz.prog 12 #[.pointer (some ⟨lb, off, none⟩), .agg #[.int .i64 k, .int .i64 who, .int .i64 a, .slice ad n cap]] w fun e w' => e = .returned (.bool true) ∧ Sd σ base lb off bb p r c d w' ∧ Ev base lb off p r w w' := by
  obtain ⟨w1, hw1⟩ : ∃ w1, w.alloc (.cells #[.int .i64 k, .int .i64 who, .int .i64 a, .slice ad n cap] 61) = w1 := ⟨_, rfl⟩
  have hb1 : Below w.heap.size w w1 := by rw [← hw1]; exact al1' _ _
  have hO : OpB w1 w.heap.size k who a (.slice ad n cap) := by rw [← hw1]; exact new_at rfl
  have hS := h.carry hb1
  have o0 := hO.c0
  have hE1 : Ev base lb off p r w w1 := Ev.of _ _ _ _ hb1 h.bz
  clear h
  go_enter Tryz.func12, Tryz.ntmps12
  go_wp2
  go_ret
  exact ⟨rfl, hS, hE1⟩
end
end Go.Proofs.YtkbeoliglnikiaaGreat
