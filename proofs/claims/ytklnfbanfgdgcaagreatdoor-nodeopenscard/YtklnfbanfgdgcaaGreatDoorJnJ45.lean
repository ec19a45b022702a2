/- What the package's variables hold, by what the row lists; a world in which they hold it. -/
import Derived.Test.YtklnfbanfgdgcaaGreatDoorRows
import Derived.Test.YtklnfbanfgdgcaaGreatDoorJnJ31
import Derived.Stop.LaidErr
import Derived.Lay
import Derived.LaidMore
import Derived.LaidSub
import Derived.LaidHandle
import Derived.LaidLaws
import Derived.MakeChecks
import Derived.Test.YtklnfbanfgdgcaaGreatDoorJnJ44
import Derived.Test.YtklnfbanfgdgcaaGreatDoorJnJ34
set_option maxHeartbeats 40000000
set_option maxRecDepth 100000
set_option linter.unusedVariables false
namespace Go.Proofs.YtklnfbanfgdgcaaGreatDoor
open Go.ChangeShapes Go.WideShapes Go.ChangeAt Go.RowKit Go.Lib Go.Shelf

def lay3 : List (String × DataW Unit) := [("math/bits.deBruijn32tab", Rows.laid_math_bits_deBruijn32tab), ("errors.errorType", Rows.laid_errors_errorType), ("earshot/refute.errNotTaken", Rows.laid_earshot_refute_errNotTaken)]
def layP : List (String × DataW Unit) := [("math/bits.deBruijn32tab", Rows.laid_math_bits_deBruijn32tab), ("earshot/refute.errNotTaken", Rows.laid_earshot_refute_errNotTaken)]
def hatch (w : World) : World :=
  { w with heap := w.heap.modify 0 fun
      | .cells _ t frozen => .cells #[.iface 362 (.agg #[.pointer (some ⟨3, 168, none⟩)])] t frozen
      | o => o }
theorem hatch_os (w : World) : (hatch w).os = w.os := rfl
/-- A world in which the three hold what they shall. -/
noncomputable def world3 (os : Os) : World := hatch (World.laidAll Tryz.prog os layP)
theorem world3_os (os : Os) : (world3 os).os = os := by
  unfold world3
  rw [hatch_os]
  exact World.laidAll_os Tryz.prog os layP
set_option maxRecDepth 100000 in
theorem world3_met (os : Os) (args : Array Value) : laidMetH Tryz.prog lay3 ((world3 os).forCall (fun _ _ => 0) ⟨#[], args, []⟩).memory :=
  laidMetH_of_parts (laidMet_of_run' 8 (by kernel_rfl) (by kernel_rfl)) (by kernel_rfl)
end Go.Proofs.YtklnfbanfgdgcaaGreatDoor
namespace Go.Proofs.YtklnfbanfgdgcaaGreatDoor
open Go.RowKit Go.Shelf Go.Lib
set_option linter.unusedVariables false

section
variable {s s' : Ns} {m : Nat} {o : OpN} {E : Int}
end

def sgA (li ro ta : Int) (su he re : Nat) (v : Value) : Array Value := #[.bool true, .int .i64 li, .int .i64 ro, .int .i64 ta, .int .u32 (wd su 0 : Nat), .int .u32 (wd su 1 : Nat), .int .u32 (wd su 2 : Nat), .int .u32 (wd su 3 : Nat), .int .u32 (wd he 0 : Nat), .int .u32 (wd he 1 : Nat), .int .u32 (wd he 2 : Nat), .int .u32 (wd he 3 : Nat), .int .u32 (wd re 0 : Nat), .int .u32 (wd re 1 : Nat), .int .u32 (wd re 2 : Nat), .int .u32 (wd re 3 : Nat), v]
section
variable {w W V : World} {base x b : Nat} {A : NA} {s : Ns} {m : Nat} {ro : Int} {he re : Nat}
/-- As the walk meets them. -/
theorem eqA {A : Nat} (hA : A < S128) (w : World) : (Op.equalIn 10000 51 (.agg #[.int .u32 (wd A 0 : Nat), .int .u32 (wd A 1 : Nat), .int .u32 (wd A 2 : Nat), .int .u32 (wd A 3 : Nat)]) (.agg #[.int .u32 (wd A 0 : Nat), .int .u32 (wd A 1 : Nat), .int .u32 (wd A 2 : Nat), .int .u32 (wd A 3 : Nat)])).run Tryz.prog w = .ok true w := by
  have := eqn4 A A hA hA w
  rw [decide_eq_true rfl] at this
  exact this
end
set_option maxHeartbeats 8000000 in
set_option maxRecDepth 100000 in
theorem sameS_any {li ro ta : Int} {su he re n : Nat} (hs : su < S128) (hh : he < S128) (hr : re < S128) (a a2 : Option Addr) (c c2 : Nat) (l : List N3) (hn : l.length = n) (hl : l.length ≤ 1000) (w : World) (h : RdN w a l) (h2 : RdN w a2 l) : Calls Tryz.prog 49 #[.agg (sgA li ro ta su he re (.slice a n c)), .agg (sgA li ro ta su he re (.slice a2 n c2))] w fun e w' => e = .returned (.bool true) ∧ Below w.heap.size w w' := by
  obtain ⟨w1, hw1⟩ : ∃ w1, w.alloc (.cells #[.bool true, .int .i64 li, .int .i64 ro, .int .i64 ta, .int .u32 (wd su 0 : Nat), .int .u32 (wd su 1 : Nat), .int .u32 (wd su 2 : Nat), .int .u32 (wd su 3 : Nat), .int .u32 (wd he 0 : Nat), .int .u32 (wd he 1 : Nat), .int .u32 (wd he 2 : Nat), .int .u32 (wd he 3 : Nat), .int .u32 (wd re 0 : Nat), .int .u32 (wd re 1 : Nat), .int .u32 (wd re 2 : Nat), .int .u32 (wd re 3 : Nat), .slice a n c] 91) = w1 := ⟨_, rfl⟩
  have hb1 : Below w.heap.size w w1 := by rw [← hw1]; exact al1' _ _
  have g1 : w1.heap[w.heap.size]? = some (.cells #[.bool true, .int .i64 li, .int .i64 ro, .int .i64 ta, .int .u32 (wd su 0 : Nat), .int .u32 (wd su 1 : Nat), .int .u32 (wd su 2 : Nat), .int .u32 (wd su 3 : Nat), .int .u32 (wd he 0 : Nat), .int .u32 (wd he 1 : Nat), .int .u32 (wd he 2 : Nat), .int .u32 (wd he 3 : Nat), .int .u32 (wd re 0 : Nat), .int .u32 (wd re 1 : Nat), .int .u32 (wd re 2 : Nat), .int .u32 (wd re 3 : Nat), .slice a n c] 91 (0, 0)) := by rw [← hw1]; exact new_at rfl
  obtain ⟨w2, hw2⟩ : ∃ w2, w1.alloc (.cells #[.bool true, .int .i64 li, .int .i64 ro, .int .i64 ta, .int .u32 (wd su 0 : Nat), .int .u32 (wd su 1 : Nat), .int .u32 (wd su 2 : Nat), .int .u32 (wd su 3 : Nat), .int .u32 (wd he 0 : Nat), .int .u32 (wd he 1 : Nat), .int .u32 (wd he 2 : Nat), .int .u32 (wd he 3 : Nat), .int .u32 (wd re 0 : Nat), .int .u32 (wd re 1 : Nat), .int .u32 (wd re 2 : Nat), .int .u32 (wd re 3 : Nat), .slice a2 n c2] 91) = w2 := ⟨_, rfl⟩
  have hb2 : Below w1.heap.size w1 w2 := by rw [← hw2]; exact al1' _ _
  have g2 : w2.heap[w1.heap.size]? = some (.cells #[.bool true, .int .i64 li, .int .i64 ro, .int .i64 ta, .int .u32 (wd su 0 : Nat), .int .u32 (wd su 1 : Nat), .int .u32 (wd su 2 : Nat), .int .u32 (wd su 3 : Nat), .int .u32 (wd he 0 : Nat), .int .u32 (wd he 1 : Nat), .int .u32 (wd he 2 : Nat), .int .u32 (wd he 3 : Nat), .int .u32 (wd re 0 : Nat), .int .u32 (wd re 1 : Nat), .int .u32 (wd re 2 : Nat), .int .u32 (wd re 3 : Nat), .slice a2 n c2] 91 (0, 0)) := by rw [← hw2]; exact new_at rfl
  have g3 := (hb2.block _ (lt_at g1)).trans g1
  have q0 : w2.cell? ⟨w.heap.size, 0, none⟩ = some (.bool true) := (cell_at g3 0).trans rfl
  have q1 : w2.cell? ⟨w.heap.size, 1, none⟩ = some (.int .i64 li) := (cell_at g3 1).trans rfl
  have q2 : w2.cell? ⟨w.heap.size, 2, none⟩ = some (.int .i64 ro) := (cell_at g3 2).trans rfl
  have q3 : w2.cell? ⟨w.heap.size, 3, none⟩ = some (.int .i64 ta) := (cell_at g3 3).trans rfl
  have q4 : w2.cell? ⟨w.heap.size, 4, none⟩ = some (.int .u32 (wd su 0 : Nat)) := (cell_at g3 4).trans rfl
  have q5 : w2.cell? ⟨w.heap.size, 5, none⟩ = some (.int .u32 (wd su 1 : Nat)) := (cell_at g3 5).trans rfl
  have q6 : w2.cell? ⟨w.heap.size, 6, none⟩ = some (.int .u32 (wd su 2 : Nat)) := (cell_at g3 6).trans rfl
  have q7 : w2.cell? ⟨w.heap.size, 7, none⟩ = some (.int .u32 (wd su 3 : Nat)) := (cell_at g3 7).trans rfl
  have q8 : w2.cell? ⟨w.heap.size, 8, none⟩ = some (.int .u32 (wd he 0 : Nat)) := (cell_at g3 8).trans rfl
  have q9 : w2.cell? ⟨w.heap.size, 9, none⟩ = some (.int .u32 (wd he 1 : Nat)) := (cell_at g3 9).trans rfl
  have q10 : w2.cell? ⟨w.heap.size, 10, none⟩ = some (.int .u32 (wd he 2 : Nat)) := (cell_at g3 10).trans rfl
  have q11 : w2.cell? ⟨w.heap.size, 11, none⟩ = some (.int .u32 (wd he 3 : Nat)) := (cell_at g3 11).trans rfl
  have q12 : w2.cell? ⟨w.heap.size, 12, none⟩ = some (.int .u32 (wd re 0 : Nat)) := (cell_at g3 12).trans rfl
  have q13 : w2.cell? ⟨w.heap.size, 13, none⟩ = some (.int .u32 (wd re 1 : Nat)) := (cell_at g3 13).trans rfl
  have q14 : w2.cell? ⟨w.heap.size, 14, none⟩ = some (.int .u32 (wd re 2 : Nat)) := (cell_at g3 14).trans rfl
  have q15 : w2.cell? ⟨w.heap.size, 15, none⟩ = some (.int .u32 (wd re 3 : Nat)) := (cell_at g3 15).trans rfl
  have q16 : w2.cell? ⟨w.heap.size, 16, none⟩ = some (.slice a n c) := (cell_at g3 16).trans rfl
  have r0 : w2.cell? ⟨w1.heap.size, 0, none⟩ = some (.bool true) := (cell_at g2 0).trans rfl
  have r1 : w2.cell? ⟨w1.heap.size, 1, none⟩ = some (.int .i64 li) := (cell_at g2 1).trans rfl
  have r2 : w2.cell? ⟨w1.heap.size, 2, none⟩ = some (.int .i64 ro) := (cell_at g2 2).trans rfl
  have r3 : w2.cell? ⟨w1.heap.size, 3, none⟩ = some (.int .i64 ta) := (cell_at g2 3).trans rfl
  have r4 : w2.cell? ⟨w1.heap.size, 4, none⟩ = some (.int .u32 (wd su 0 : Nat)) := (cell_at g2 4).trans rfl
  have r5 : w2.cell? ⟨w1.heap.size, 5, none⟩ = some (.int .u32 (wd su 1 : Nat)) := (cell_at g2 5).trans rfl
  have r6 : w2.cell? ⟨w1.heap.size, 6, none⟩ = some (.int .u32 (wd su 2 : Nat)) := (cell_at g2 6).trans rfl
  have r7 : w2.cell? ⟨w1.heap.size, 7, none⟩ = some (.int .u32 (wd su 3 : Nat)) := (cell_at g2 7).trans rfl
  have r8 : w2.cell? ⟨w1.heap.size, 8, none⟩ = some (.int .u32 (wd he 0 : Nat)) := (cell_at g2 8).trans rfl
  have r9 : w2.cell? ⟨w1.heap.size, 9, none⟩ = some (.int .u32 (wd he 1 : Nat)) := (cell_at g2 9).trans rfl
  have r10 : w2.cell? ⟨w1.heap.size, 10, none⟩ = some (.int .u32 (wd he 2 : Nat)) := (cell_at g2 10).trans rfl
  have r11 : w2.cell? ⟨w1.heap.size, 11, none⟩ = some (.int .u32 (wd he 3 : Nat)) := (cell_at g2 11).trans rfl
  have r12 : w2.cell? ⟨w1.heap.size, 12, none⟩ = some (.int .u32 (wd re 0 : Nat)) := (cell_at g2 12).trans rfl
  have r13 : w2.cell? ⟨w1.heap.size, 13, none⟩ = some (.int .u32 (wd re 1 : Nat)) := (cell_at g2 13).trans rfl
  have r14 : w2.cell? ⟨w1.heap.size, 14, none⟩ = some (.int .u32 (wd re 2 : Nat)) := (cell_at g2 14).trans rfl
  have r15 : w2.cell? ⟨w1.heap.size, 15, none⟩ = some (.int .u32 (wd re 3 : Nat)) := (cell_at g2 15).trans rfl
  have r16 : w2.cell? ⟨w1.heap.size, 16, none⟩ = some (.slice a2 n c2) := (cell_at g2 16).trans rfl
  have hsm := same_any a a2 c c2 l w2 (h.carry (bel2 hb1 hb2)) (h2.carry (bel2 hb1 hb2)) (by omega)
  rw [hn] at hsm
  have e1 := fun V => eqA hs V
  have e2 := fun V => eqA hh V
  have e3 := fun V => eqA hr V
  clear g1 g2 g3 h h2 hs hh hr hn hl
  unfold sgA
  go_enter Tryz.func49, Tryz.ntmps49
  go_wp2_with (go_at_call 145; (with_reducible refine hsm.mono ?_); rintro r u ⟨rfl, hu⟩)
  go_ret
  exact ⟨rfl, bel2 (bel2 hb1 hb2) hu⟩
end Go.Proofs.YtklnfbanfgdgcaaGreatDoor
