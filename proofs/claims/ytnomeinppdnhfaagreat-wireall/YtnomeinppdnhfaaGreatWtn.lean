/- idset.Within: what it answers, at every input. -/
import Derived.Test.YtnomeinppdnhfaaGreatWth
namespace Go.Proofs.YtnomeinppdnhfaaGreat
open Go.RowKit Go.Shelf Go.Lib
def topW (n : Int) : Nat := (min (max n 0) 100).toNat
def wthB (N : Nat) (n : Int) : Bool := decide (N = N % 2 ^ topW n)
theorem topW_le (n : Int) : topW n ≤ 100 := by unfold topW; omega
theorem topW_lt (n : Int) (i : Nat) : i < topW n ↔ (i : Int) < n ∧ i < 100 := by unfold topW; omega
theorem bi_max {P : Program} (cs : Array Bool) (ts : Array TypeId) (t : TypeId) (x y : Int) (w : World) : (builtin .max ts t cs #[.int .i64 x, .int .i64 y]).run P w = .ok (.value (.int .i64 (max x y))) w := by
  show ((do pure (.value (← Builtin.max_ ts t #[.int .i64 x, .int .i64 y]))) : Sem Next).run P w = _
  rw [Sem.run_bind, run_max_int2]
  simp only [Result.andThen_ok, Sem.run_pure]
  by_cases h : y > x
  · rw [if_pos h, show max x y = y by omega]
  · rw [if_neg h, show max x y = x by omega]
theorem bi_min {P : Program} (cs : Array Bool) (ts : Array TypeId) (t : TypeId) (x y : Int) (w : World) : (builtin .min ts t cs #[.int .i64 x, .int .i64 y]).run P w = .ok (.value (.int .i64 (min x y))) w := by
  show ((do pure (.value (← Builtin.min_ ts t #[.int .i64 x, .int .i64 y]))) : Sem Next).run P w = _
  rw [Sem.run_bind, run_min_int2]
  simp only [Result.andThen_ok, Sem.run_pure]
  by_cases h : y < x
  · rw [if_pos h, show min x y = y by omega]
  · rw [if_neg h, show min x y = x by omega]
set_option maxHeartbeats 1000000 in
set_option maxRecDepth 100000 in
theorem within_any (N : Nat) (hN : N < S128) (n : Int) (w : World) : Calls Tryz.prog 89 #[sv N, .int .i64 n] w fun e w' => e = .returned (.bool (wthB N n)) ∧ Below w.heap.size w w' := by
  have hmx : Tryz.prog.follows .mixedOrders = true := by kernel_rfl
  have hbl := below_any N (topW n) (by have := topW_le n; omega)
  have hq : (topW n : Int) = min (max n 0) 100 := by unfold topW; omega
  have hlt : N % 2 ^ topW n < S128 := Nat.lt_of_le_of_lt (Nat.mod_le _ _) hN
  go_enter Tryz.func89, Tryz.ntmps89
  simp only [sv]
  go_wp2
  rename_i Q0 K0 hK
  refine wp_region_any hmx ?_
  refine wpAny_pure (fun i__ => ([(sv N), (sv N), (.int .i64 n), (.int .i64 (max n 0)), (.int .i64 (topW n : Nat)), (sv (N % 2 ^ topW n)), (.bool (wthB N n)), (.bool (wthB N n))] : List Value).getD i__ undef) (fun W => Holds4 W w.heap.size (wd N) ∧ Below w.heap.size w W) (by kernel_rfl) ⟨get_new (by simp), (alloc_below w _).drew⟩ ?_ ?_
  · refine (stepsFrom_cons ?_ (stepsFrom_cons ?_ (stepsFrom_cons ?_ (stepsFrom_cons ?_ (stepsFrom_cons ?_ (stepsFrom_cons ?_ (stepsFrom_cons ?_ (stepsFrom_cons ?_ trivial))))))))
    · exact step_load rfl trivial _ _ _ rfl rfl (fun w hw => whole4 w _ N hw.1)
    · exact step_load rfl trivial _ _ _ rfl rfl (fun w hw => whole4 w _ N hw.1)
    · exact step_move rfl trivial _ rfl (by kernel_rfl)
    · exact step_bi rfl trivial _ _ _ [(.int .i64 n), (Go.Value.int Go.IntKind.i64 0)] rfl (by kernel_rfl) (fun cs w hw => bi_max cs _ _ n 0 w)
    · exact step_bi rfl trivial _ _ _ [(.int .i64 (max n 0)), (Go.Value.int Go.IntKind.i64 100)] rfl (by kernel_rfl) (fun cs w hw => by rw [hq]; exact bi_min cs _ _ _ 100 w)
    · exact step_call rfl trivial 117 _ _ [(sv N), (.int .i64 (topW n : Nat))] rfl (by kernel_rfl) (enters_of Tryz.func117 (by kernel_rfl) rfl) (fun w hw => (hbl w).mono (by rintro e w' ⟨rfl, hb⟩; exact ⟨rfl, hw.1.carry hb, bcarry hw.2 (Nat.le_refl _) hb⟩))
    · exact step_binOp rfl trivial _ _ _ _ _ _ _ rfl rfl rfl (fun w hw => eql4 _ _ _ _ hN hlt w)
    · exact step_assign rfl trivial _ rfl (by kernel_rfl) (fun _ h => h)
  intro W hW
  first | refine hK _ _ ?_ | refine (‹∀ (a : Act) (w : World), Code.wp Tryz.prog _ _ a w → _›) _ _ ?_ | skip
  simp only [finL, List.getD_cons_zero, List.getD_cons_succ, Nat.zero_add, Nat.reduceAdd, List.setIfInBounds_toArray, List.set_cons_zero, List.set_cons_succ]
  go_wp2
  go_ret
  exact ⟨rfl, hW.2⟩
end Go.Proofs.YtnomeinppdnhfaaGreat
