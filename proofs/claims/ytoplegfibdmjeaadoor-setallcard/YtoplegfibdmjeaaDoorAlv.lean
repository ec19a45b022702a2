/- alive: a first call whose answer the document fixes. -/
import Derived.Test.YtoplegfibdmjeaaDoorHas
namespace Go.Proofs.YtoplegfibdmjeaaDoor
open Go.RowKit Go.Shelf Go.Lib

theorem of_0_33 : ofV (ofN [0, 33] 0) = .tuple #[.agg #[.int .u32 1, .int .u32 2, .int .u32 0, .int .u32 0], .int .i64 0] := by
  simp [ofV, ofN, sv, wd]
theorem cnt_0_33 : cnt (cln 8589934593) = 2 := by decide +kernel
theorem sv_0_33 : sv 8589934593 = .agg #[.int .u32 1, .int .u32 2, .int .u32 0, .int .u32 0] := by simp [sv, wd]
theorem ints2 {W : World} {b : Nat} {x y : Int} {t : TypeId} (h : W.heap[b]? = some (.cells #[.int .i64 x, .int .i64 y] t)) : Ints W ⟨b, 0, none⟩ [x, y] := by
  refine ⟨rfl, fun k z hz => ?_, (Array.getElem?_eq_some_iff.1 h).1⟩
  match k, hz with
  | 0, hz => cases hz; simp [World.cell?, h]
  | 1, hz => cases hz; simp [World.cell?, h]
set_option maxHeartbeats 1000000 in
set_option maxRecDepth 100000 in
theorem alive_any (w : World) : Calls Tryd.prog 4 #[] w fun e w' => e = .returned (.bool true) ∧ Below w.heap.size w w' := by
  have hq := eqn4 8589934593 8589934593 (by decide) (by decide)
  have hcn := count_any 8589934593
  rw [cnt_0_33] at hcn
  rw [sv_0_33] at hq hcn
  have hof : ∀ w1 : World, Ints w1 ⟨w.heap.size, 0, none⟩ [0, 33] → Calls Tryd.prog 9 #[.slice (some ⟨w.heap.size, 0, none⟩) 2 2] w1 fun e w' => e = .returned (ofV (ofN [0, 33] 0)) ∧ Below w1.heap.size w1 w' := fun w1 h => of_any [0, 33] _ 2 (by decide) w1 h
  rw [of_0_33] at hof
  go_enter Tryd.func4, Tryd.ntmps4
  go_wp2_with (first | (go_at_call 9; refine (hof _ ?_).mono ?_; exact ints2 (get_new rfl); rintro e w1 ⟨rfl, hb⟩; have hb2 : Below w.heap.size w w1 := ((Below.refl _ w).alloc (by simp) _).trans (hb.mono (by simp))) | (go_at_call 13; refine (hcn _).mono ?_; rintro e w2 ⟨rfl, hb3⟩))
  go_ret
  refine ⟨rfl, bcarry ?_ (Nat.le_refl _) hb3⟩
  exact hb2.alloc hb2.size _
end Go.Proofs.YtoplegfibdmjeaaDoor
