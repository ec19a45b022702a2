/- audit.Check's deferred function: what it answers. -/
import Derived.Test.YtgnhainfcfcodaaGreatAuj
import Derived.Defers
import Derived.Recover
namespace Go.Proofs.YtgnhainfcfcodaaGreat
open Go.RowKit Go.Shelf Go.Lib
attribute [local go_sem] Oper.semAt_some

theorem assertR_yes (v : Value) (w : World) : (Instr.typeAssert (.iface 91 v) 20 91 true).run Tryz.prog w = .ok (.tuple #[v, .bool true]) w := by kernel_rfl
theorem assertR_nil (w : World) : (Instr.typeAssert .nilIface 20 91 true).run Tryz.prog w = .ok (.tuple #[.agg #[.int .i64 0], .bool false]) w := by kernel_rfl
set_option maxHeartbeats 1000000 in
set_option maxRecDepth 100000 in
theorem ccatch (a c : Nat) (y1 y2 pl : Int) (w : World) (ga : w.heap[a]? = some (.cells #[.int .i64 y1] 3 (0, 0))) (gc : w.heap[c]? = some (.cells #[.int .i64 y2] 26 (0, 0))) (hac : ¬ c = a) :
    CallsD Tryz.prog 71 #[.pointer (some ⟨a, 0, none⟩), .pointer (some ⟨c, 0, none⟩)] (.panicking (off pl)) w fun e u' w' =>
      e = .returned (.tuple #[]) ∧ u' = .panicking [{ v := .iface 91 (.agg #[.int .i64 pl]), recovered := true }] ∧ w' = ((w.alloc (.cells #[.int .i64 pl] 91)).setCell ⟨a, 0, none⟩ (.int .i64 pl)).setCell ⟨c, 0, none⟩ (.int .i64 220) := by
  have la := lt_at ga
  have lc := lt_at gc
  have ha : w.cell? ⟨a, 0, none⟩ = some (.int .i64 y1) := (cell_at ga 0).trans rfl
  have hb : w.cell? ⟨c, 0, none⟩ = some (.int .i64 y2) := (cell_at gc 0).trans rfl
  have ha' : (w.alloc (.cells #[.int .i64 pl] 91)).cell? ⟨a, 0, none⟩ = some (.int .i64 y1) := (cell_at (old_at ga) 0).trans rfl
  have hb' : (w.alloc (.cells #[.int .i64 pl] 91)).cell? ⟨c, 0, none⟩ = some (.int .i64 y2) := (cell_at (old_at gc) 0).trans rfl
  have hza := thaw_at (old_at (o := .cells #[.int .i64 pl] 91) ga) 0
  have hzb := thaw_at (old_at (o := .cells #[.int .i64 pl] 91) gc) 0
  have n1 : ¬ w.heap.size = a := by omega
  have n2 : ¬ w.heap.size = c := by omega
  refine callsD_of_wpS Tryz.func71 rfl fun c₀ cs hu => ?_
  unfold off at hu
  apply wpS_seq
  apply wpS_region
  simp [wpOpsS, go_sem, recoverD, hu, Tryz.ntmps71, Exit.thenS, assertR_yes]
  apply wpS_seq
  apply wpS_region
  simp [wpOpsS, go_sem, Exit.thenS]
  refine wpS_cond (t := true) (by simp [Act.eval, Array.replicate]) ?_
  simp only [if_true]
  apply wpS_region
  simp [wpOpsS, go_sem, ha', hb', hza, hzb, bodyPostS, results, Tryz.results71]
set_option maxHeartbeats 1000000 in
set_option maxRecDepth 100000 in
theorem cidle (a b : Nat) (w : World) :
    CallsD Tryz.prog 71 #[.pointer (some ⟨a, 0, none⟩), .pointer (some ⟨b, 0, none⟩)] .returning w fun e u' w' => e = .returned (.tuple #[]) ∧ u' = .returning ∧ w' = w.alloc (.cells #[.int .i64 0] 91) := by
  refine callsD_of_wpS Tryz.func71 rfl fun c₀ cs hu => ?_
  apply wpS_seq
  apply wpS_region
  simp [wpOpsS, go_sem, recoverD, hu, Tryz.ntmps71, Exit.thenS, assertR_nil]
  apply wpS_seq
  apply wpS_region
  simp [wpOpsS, go_sem, Exit.thenS]
  refine wpS_cond (t := false) (by simp [Act.eval, Array.replicate]) ?_
  simp only [Bool.false_eq_true, if_false]
  refine wpS_of_wp (wp_skip ?_)
  cases c₀
  simp_all [bodyPostS, results, Tryz.results71]
end Go.Proofs.YtgnhainfcfcodaaGreat
