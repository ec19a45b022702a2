/- tally's fates: what they are; each one's closure. -/
import Derived.Test.YtgehmidalfajgaaDoorTyb
import Derived.Test.YtgehmidalfajgaaDoorRgn
namespace Go.Proofs.YtgehmidalfajgaaDoor
open Go.RowKit Go.Shelf

theorem load_i64 {W : World} {B o : Nat} {x : Int} (h : W.cell? ⟨B, o, none⟩ = some (.int .i64 x)) : (Instr.loadAt 3 (.pointer (some ⟨B, o, none⟩))).run Tryd.prog W = .ok (.int .i64 x) W := by go_simp
theorem load_tp {W : World} {B o q : Nat} (h : W.cell? ⟨B, o, none⟩ = some (.pointer (some ⟨q, 0, none⟩))) : (Instr.loadAt 31 (.pointer (some ⟨B, o, none⟩))).run Tryd.prog W = .ok (.pointer (some ⟨q, 0, none⟩)) W := by go_simp
theorem load_ts {W : World} {base q : Nat} {ad : Option Addr} {cap : Nat} {t : Tl} (h : Ta W base q ad cap t) : (Instr.loadAt 27 (.pointer (some ⟨q, 3, none⟩))).run Tryd.prog W = .ok (sv t.reps) W := by
  obtain ⟨_, _, _, c3, c4, c5, c6, _⟩ := h.cells
  unfold sv
  go_simp
theorem field_t0 (W : World) (q : Nat) : (Instr.fieldAt 67 (.pointer (some ⟨q, 0, none⟩)) 0).run Tryd.prog W = .ok (.pointer (some ⟨q, 0, none⟩)) W := by go_simp
theorem field_t2 (W : World) (q : Nat) : (Instr.fieldAt 67 (.pointer (some ⟨q, 0, none⟩)) 2).run Tryd.prog W = .ok (.pointer (some ⟨q, 2, none⟩)) W := by go_simp
theorem field_t3 (W : World) (q : Nat) : (Instr.fieldAt 67 (.pointer (some ⟨q, 0, none⟩)) 3).run Tryd.prog W = .ok (.pointer (some ⟨q, 3, none⟩)) W := by go_simp
theorem field_t4 (W : World) (q : Nat) : (Instr.fieldAt 67 (.pointer (some ⟨q, 0, none⟩)) 4).run Tryd.prog W = .ok (.pointer (some ⟨q, 7, none⟩)) W := by go_simp
theorem un_not (b : Bool) (W : World) : (Op.unary .not (.bool b)).run Tryd.prog W = .ok (.bool (!b)) W := by go_simp
theorem bin_ne64 {x y : Operand} (a b : Int) (w : World) : binRun Tryd.prog .neq 3 x y (.int .i64 a) (.int .i64 b) w = .ok (.bool (decide (a ≠ b))) w := by
  unfold binRun
  go_simp
  by_cases h : a = b <;> simp [h]
/-- The boxes that the fates look at. -/
structure Fx (W : World) (k q : Nat) (f r : Int) (N : Nat) : Prop where
  tb : W.heap[k]? = some (.cells #[.pointer (some ⟨q, 0, none⟩)] 31 (0, 0))
  fb : W.heap[k + 1]? = some (.cells #[.int .i64 f] 3 (0, 0))
  rb : W.heap[k + 1 + 1]? = some (.cells #[.int .i64 r] 3 (0, 0))
  hb : Holds4 W (k + 1 + 1 + 1) (wd N)
theorem Fx.carry {W V : World} {k q : Nat} {f r : Int} {N : Nat} (h : Fx W k q f r N) (hb : Below W.heap.size W V) : Fx V k q f r N :=
  ⟨(hb.block _ (lt_at h.tb)).trans h.tb, (hb.block _ (lt_at h.fb)).trans h.fb, (hb.block _ (lt_at h.rb)).trans h.rb, h.hb.carry hb⟩
def ftC (k q : Nat) : Array Value := #[.int .i64 5, .int .i64 0, .func (.func 58) #[] #[.pointer (some ⟨k + 1, 0, none⟩), .pointer (some ⟨k, 0, none⟩)],
  .int .i64 0, .int .i64 74, .func (.func 59) #[] #[.pointer (some ⟨k + 1 + 1 + 1, 0, none⟩), .pointer (some ⟨k, 0, none⟩)],
  .int .i64 2, .int .i64 0, .func (.func 60) #[] #[.pointer (some ⟨k + 1 + 1, 0, none⟩), .pointer (some ⟨k, 0, none⟩)],
  .int .i64 3, .int .i64 0, .func (.func 61) #[] #[.pointer (some ⟨k, 0, none⟩), .pointer (some ⟨k + 1, 0, none⟩)],
  .int .i64 4, .int .i64 0, .func (.func 11) #[.pointer (some ⟨q, 0, none⟩)] #[]]
set_option maxHeartbeats 4000000 in
set_option maxRecDepth 100000 in
theorem fates_any (q : Nat) (f r : Int) (N : Nat) (W : World) : Calls Tryd.prog 33 #[.pointer (some ⟨q, 0, none⟩), .int .i64 f, .int .i64 r, sv N] W fun e w' => ∃ k, e = .returned (.slice (some ⟨k + 1 + 1 + 1 + 1, 0, none⟩) 5 5) ∧ Fx w' k q f r N ∧ w'.heap[k + 1 + 1 + 1 + 1]? = some (.cells (ftC k q) 72 (0, 0)) ∧ Below W.heap.size W w' := by
  simp only [sv]
  go_enter Tryd.func33, Tryd.ntmps33
  go_wp2
  go_ret
  refine ⟨W.heap.size, rfl, ⟨?_, ?_, ?_, ?_⟩, ?_, ?_⟩
  · exact old_at (old_at (old_at (old_at (new_at rfl))))
  · exact old_at (old_at (old_at (new_at (by simp))))
  · exact old_at (old_at (new_at (by simp)))
  · exact old_at (new_at (by simp))
  · exact new_at (by simp)
  · exact bel2 (bel2 (bel2 (bel2 (al1' _ _) (al1' _ _)) (al1' _ _)) (al1' _ _)) (al1' _ _)
section
variable {w : World} {base q k : Nat} {ad : Option Addr} {cap : Nat} {t : Tl} {f r : Int} {N : Nat}
set_option maxHeartbeats 4000000 in
set_option maxRecDepth 100000 in
theorem fate1_any (h : Ta w base q ad cap t) (hx : Fx w k q f r N) : Calls Tryd.prog 58 #[.pointer (some ⟨k + 1, 0, none⟩), .pointer (some ⟨k, 0, none⟩)] w fun e w' => e = .returned (.bool (!isN f t.n)) ∧ Below w.heap.size w w' := by
  have hmx : Tryd.prog.follows .mixedOrders = true := by kernel_rfl
  go_enter Tryd.func58, Tryd.ntmps58
  go_wp2
  rename_i hK
  refine wp_region_any hmx ?_
  refine wpAny_pure (fun i__ => ([(.int .i64 f), (.pointer (some ⟨q, 0, none⟩)), (.pointer (some ⟨q, 0, none⟩)), (.pointer (some ⟨q, 0, none⟩)), (.int .i64 t.n), (.bool (isN f t.n)), (.bool (!isN f t.n)), (.bool (!isN f t.n))] : List Value).getD i__ undef) (fun V => Below w.heap.size w V) (by kernel_rfl) (Below.refl _ _).drew ?_ ?_
  · refine (stepsFrom_cons ?_ (stepsFrom_cons ?_ (stepsFrom_cons ?_ (stepsFrom_cons ?_ (stepsFrom_cons ?_ (stepsFrom_cons ?_ (stepsFrom_cons ?_ (stepsFrom_cons ?_ trivial))))))))
    · exact step_load rfl trivial _ _ _ rfl rfl (fun v hw => load_i64 (by rw [cell_at (hx.carry hw).fb]; rfl))
    · exact step_load rfl trivial _ _ _ rfl rfl (fun v hw => load_tp (by rw [cell_at (hx.carry hw).tb]; rfl))
    · exact step_nilCheck rfl trivial _ _ _ rfl rfl rfl
    · exact step_fieldAddr rfl trivial _ _ _ _ rfl rfl (fun v hw => field_t0 v _)
    · exact step_load rfl trivial _ _ _ rfl rfl (fun v hw => load_i64 (h.carry hw).cells.1)
    · exact step_call rfl trivial 30 _ _ [(.int .i64 f), (.int .i64 t.n)] rfl (by kernel_rfl) (enters_of Tryd.func30 (by kernel_rfl) rfl) (fun v hw => (isNode_any f t.n v).mono (by rintro e w' ⟨rfl, rfl⟩; exact ⟨rfl, hw⟩))
    · exact step_unOp rfl trivial _ _ _ _ rfl rfl (fun v hw => un_not _ v)
    · exact step_assign rfl trivial _ rfl (by kernel_rfl) (fun _ h => h)
  intro W hW
  first | refine hK _ _ ?_ | refine (‹∀ (a : Act) (w : World), Code.wp Tryd.prog _ _ a w → _›) _ _ ?_
  simp only [finL, List.getD_cons_zero, List.getD_cons_succ, Nat.zero_add, Nat.reduceAdd, List.setIfInBounds_toArray, List.set_cons_zero, List.set_cons_succ]
  clear hK
  go_wp2
  go_ret
  exact ⟨rfl, hW⟩
set_option maxHeartbeats 4000000 in
set_option maxRecDepth 100000 in
theorem fate2_any (h : Ta w base q ad cap t) (hx : Fx w k q f r N) (hN : N < S128) : Calls Tryd.prog 59 #[.pointer (some ⟨k + 1 + 1 + 1, 0, none⟩), .pointer (some ⟨k, 0, none⟩)] w fun e w' => e = .returned (.bool (!wthB N t.n)) ∧ Below w.heap.size w w' := by
  have hmx : Tryd.prog.follows .mixedOrders = true := by kernel_rfl
  go_enter Tryd.func59, Tryd.ntmps59
  go_wp2
  rename_i hK
  refine wp_region_any hmx ?_
  refine wpAny_pure (fun i__ => ([(sv N), (.pointer (some ⟨q, 0, none⟩)), (.pointer (some ⟨q, 0, none⟩)), (.pointer (some ⟨q, 0, none⟩)), (.int .i64 t.n), (.bool (wthB N t.n)), (.bool (!wthB N t.n)), (.bool (!wthB N t.n))] : List Value).getD i__ undef) (fun V => Below w.heap.size w V) (by kernel_rfl) (Below.refl _ _).drew ?_ ?_
  · refine (stepsFrom_cons ?_ (stepsFrom_cons ?_ (stepsFrom_cons ?_ (stepsFrom_cons ?_ (stepsFrom_cons ?_ (stepsFrom_cons ?_ (stepsFrom_cons ?_ (stepsFrom_cons ?_ trivial))))))))
    · exact step_load rfl trivial _ _ _ rfl rfl (fun v hw => whole4 v _ N (hx.carry hw).hb)
    · exact step_load rfl trivial _ _ _ rfl rfl (fun v hw => load_tp (by rw [cell_at (hx.carry hw).tb]; rfl))
    · exact step_nilCheck rfl trivial _ _ _ rfl rfl rfl
    · exact step_fieldAddr rfl trivial _ _ _ _ rfl rfl (fun v hw => field_t0 v _)
    · exact step_load rfl trivial _ _ _ rfl rfl (fun v hw => load_i64 (h.carry hw).cells.1)
    · exact step_call rfl trivial 31 _ _ [(sv N), (.int .i64 t.n)] rfl (by kernel_rfl) (enters_of Tryd.func31 (by kernel_rfl) rfl) (fun v hw => (within_any N hN t.n v).mono (by rintro e w' ⟨rfl, hb⟩; exact ⟨rfl, bel2 hw hb⟩))
    · exact step_unOp rfl trivial _ _ _ _ rfl rfl (fun v hw => un_not _ v)
    · exact step_assign rfl trivial _ rfl (by kernel_rfl) (fun _ h => h)
  intro W hW
  first | refine hK _ _ ?_ | refine (‹∀ (a : Act) (w : World), Code.wp Tryd.prog _ _ a w → _›) _ _ ?_
  simp only [finL, List.getD_cons_zero, List.getD_cons_succ, Nat.zero_add, Nat.reduceAdd, List.setIfInBounds_toArray, List.set_cons_zero, List.set_cons_succ]
  clear hK
  go_wp2
  go_ret
  exact ⟨rfl, hW⟩
set_option maxHeartbeats 4000000 in
set_option maxRecDepth 100000 in
theorem fate3_any (h : Ta w base q ad cap t) (hx : Fx w k q f r N) : Calls Tryd.prog 60 #[.pointer (some ⟨k + 1 + 1, 0, none⟩), .pointer (some ⟨k, 0, none⟩)] w fun e w' => e = .returned (.bool (decide (r ≠ t.ro))) ∧ Below w.heap.size w w' := by
  have hmx : Tryd.prog.follows .mixedOrders = true := by kernel_rfl
  go_enter Tryd.func60, Tryd.ntmps60
  go_wp2
  rename_i hK
  refine wp_region_any hmx ?_
  refine wpAny_pure (fun i__ => ([(.int .i64 r), (.pointer (some ⟨q, 0, none⟩)), (.pointer (some ⟨q, 0, none⟩)), (.pointer (some ⟨q, 2, none⟩)), (.int .i64 t.ro), (.bool (decide (r ≠ t.ro))), (.bool (decide (r ≠ t.ro)))] : List Value).getD i__ undef) (fun V => Below w.heap.size w V) (by kernel_rfl) (Below.refl _ _).drew ?_ ?_
  · refine (stepsFrom_cons ?_ (stepsFrom_cons ?_ (stepsFrom_cons ?_ (stepsFrom_cons ?_ (stepsFrom_cons ?_ (stepsFrom_cons ?_ (stepsFrom_cons ?_ trivial)))))))
    · exact step_load rfl trivial _ _ _ rfl rfl (fun v hw => load_i64 (by rw [cell_at (hx.carry hw).rb]; rfl))
    · exact step_load rfl trivial _ _ _ rfl rfl (fun v hw => load_tp (by rw [cell_at (hx.carry hw).tb]; rfl))
    · exact step_nilCheck rfl trivial _ _ _ rfl rfl rfl
    · exact step_fieldAddr rfl trivial _ _ _ _ rfl rfl (fun v hw => field_t2 v _)
    · exact step_load rfl trivial _ _ _ rfl rfl (fun v hw => load_i64 (h.carry hw).cells.2.2.1)
    · exact step_binOp rfl trivial _ _ _ _ _ _ _ rfl rfl rfl (fun v hw => bin_ne64 _ _ v)
    · exact step_assign rfl trivial _ rfl (by kernel_rfl) (fun _ h => h)
  intro W hW
  first | refine hK _ _ ?_ | refine (‹∀ (a : Act) (w : World), Code.wp Tryd.prog _ _ a w → _›) _ _ ?_
  simp only [finL, List.getD_cons_zero, List.getD_cons_succ, Nat.zero_add, Nat.reduceAdd, List.setIfInBounds_toArray, List.set_cons_zero, List.set_cons_succ]
  clear hK
  go_wp2
  go_ret
  exact ⟨rfl, hW⟩
set_option maxHeartbeats 4000000 in
set_option maxRecDepth 100000 in
theorem fate4_any (h : Ta w base q ad cap t) (hx : Fx w k q f r N) (hr : t.reps < S100) : Calls Tryd.prog 61 #[.pointer (some ⟨k, 0, none⟩), .pointer (some ⟨k + 1, 0, none⟩)] w fun e w' => e = .returned (.bool (decide (wthN t.reps f = t.reps))) ∧ Below w.heap.size w w' := by
  have hmx : Tryd.prog.follows .mixedOrders = true := by kernel_rfl
  go_enter Tryd.func61, Tryd.ntmps61
  go_wp2
  rename_i hK
  refine wp_region_any hmx ?_
  refine wpAny_pure (fun i__ => ([(.pointer (some ⟨q, 0, none⟩)), (.int .i64 f), (sv (wthN t.reps f)), (.pointer (some ⟨q, 0, none⟩)), (.pointer (some ⟨q, 0, none⟩)), (.pointer (some ⟨q, 3, none⟩)), (sv t.reps), (.bool (decide (wthN t.reps f = t.reps))), (.bool (decide (wthN t.reps f = t.reps)))] : List Value).getD i__ undef) (fun V => Below w.heap.size w V) (by kernel_rfl) (Below.refl _ _).drew ?_ ?_
  · refine (stepsFrom_cons ?_ (stepsFrom_cons ?_ (stepsFrom_cons ?_ (stepsFrom_cons ?_ (stepsFrom_cons ?_ (stepsFrom_cons ?_ (stepsFrom_cons ?_ (stepsFrom_cons ?_ (stepsFrom_cons ?_ trivial)))))))))
    · exact step_load rfl trivial _ _ _ rfl rfl (fun v hw => load_tp (by rw [cell_at (hx.carry hw).tb]; rfl))
    · exact step_load rfl trivial _ _ _ rfl rfl (fun v hw => load_i64 (by rw [cell_at (hx.carry hw).fb]; rfl))
    · exact step_call rfl trivial 57 _ _ [(.pointer (some ⟨q, 0, none⟩)), (.int .i64 f)] rfl (by kernel_rfl) (enters_of Tryd.func57 (by kernel_rfl) rfl) (fun v hw => (twith_any (h.carry hw) f).mono (by rintro e w' ⟨rfl, hb⟩; exact ⟨rfl, bel2 hw hb⟩))
    · exact step_load rfl trivial _ _ _ rfl rfl (fun v hw => load_tp (by rw [cell_at (hx.carry hw).tb]; rfl))
    · exact step_nilCheck rfl trivial _ _ _ rfl rfl rfl
    · exact step_fieldAddr rfl trivial _ _ _ _ rfl rfl (fun v hw => field_t3 v _)
    · exact step_load rfl trivial _ _ _ rfl rfl (fun v hw => load_ts (h.carry hw))
    · exact step_binOp rfl trivial _ _ _ _ _ _ _ rfl rfl rfl (fun v hw => eql4 _ _ _ _ (S100_S128 (wthN_lt _ _)) (S100_S128 hr) v)
    · exact step_assign rfl trivial _ rfl (by kernel_rfl) (fun _ h => h)
  intro W hW
  first | refine hK _ _ ?_ | refine (‹∀ (a : Act) (w : World), Code.wp Tryd.prog _ _ a w → _›) _ _ ?_
  simp only [finL, List.getD_cons_zero, List.getD_cons_succ, Nat.zero_add, Nat.reduceAdd, List.setIfInBounds_toArray, List.set_cons_zero, List.set_cons_succ]
  clear hK
  go_wp2
  go_ret
  exact ⟨rfl, hW⟩
end
end Go.Proofs.YtgehmidalfajgaaDoor
