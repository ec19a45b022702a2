/- Of a nil tally, and of a zero one: what is told. -/
import Derived.Test.YtgehmidalfajgaaDoorTyf
namespace Go.Proofs.YtgehmidalfajgaaDoor
open Go.RowKit Go.Shelf

set_option maxHeartbeats 1000000 in
theorem kept_nil (W : World) : Calls Tryd.prog 62 #[.pointer none] W fun e w' => e = .returned (.slice none 0 0) ∧ w' = W := by
  go_enter Tryd.func62, Tryd.ntmps62
  go_wp2
  go_ret
  exact ⟨rfl, rfl⟩
set_option maxHeartbeats 1000000 in
theorem need_nil (W : World) : Calls Tryd.prog 35 #[.pointer none] W fun e w' => e = .returned (.int .i64 0) ∧ w' = W := by
  go_enter Tryd.func35, Tryd.ntmps35
  go_wp2
  go_ret
  exact ⟨rfl, rfl⟩
set_option maxHeartbeats 1000000 in
theorem ready_nil (W : World) : Calls Tryd.prog 11 #[.pointer none] W fun e w' => e = .returned (.bool false) ∧ w' = W := by
  have hn := need_nil W
  go_enter Tryd.func11, Tryd.ntmps11
  go_wp2_with (go_at_call 35; (with_reducible refine hn.mono ?_); rintro e u ⟨rfl, hu⟩; obtain rfl := hu.symm)
  go_ret
  exact ⟨rfl, rfl⟩
set_option maxHeartbeats 1000000 in
theorem heards_nil (W : World) : Calls Tryd.prog 40 #[.pointer none] W fun e w' => ∃ a c, e = .returned (.slice a 0 c) ∧ Below W.heap.size W w' := by
  have hk := kept_nil W
  have hc := cloneS_any none 0 0 [] W (World.ownsRow_nil _ _ _ _) (by simp)
  simp only [List.length_nil] at hc
  go_enter Tryd.func40, Tryd.ntmps40
  go_wp2_with (first | (go_at_call 62; (with_reducible refine hk.mono ?_); rintro e u ⟨rfl, hu⟩; obtain rfl := hu.symm) | (go_at_call 63; (with_reducible refine hc.mono ?_); rintro e u ⟨a, c, rfl, ho, hb⟩))
  go_ret
  exact ⟨a, c, rfl, hb⟩
set_option maxHeartbeats 1000000 in
set_option maxRecDepth 100000 in
theorem reps_nil (W : World) : Calls Tryd.prog 41 #[.pointer none] W fun e w' => e = .returned (sv 0) ∧ Below W.heap.size W w' := by
  obtain ⟨w1, hw1⟩ : ∃ w1, W.alloc (.cells #[.int .u32 0, .int .u32 0, .int .u32 0, .int .u32 0] 27) = w1 := ⟨_, rfl⟩
  have hb1 : Below W.heap.size W w1 := by rw [← hw1]; exact al1' _ _
  have g1 : Holds4 w1 W.heap.size (fun _ => 0) := by rw [← hw1]; exact new_at rfl
  obtain ⟨y0, y1, y2, y3, z0, z1, z2, z3⟩ := g1.facts
  have G1 : Hid (Holds4 w1 W.heap.size (fun _ => 0)) := g1
  clear g1
  have e0 : set4 w1 W.heap.size 0 = (((w1.setCell ⟨W.heap.size, 0, none⟩ (.int .u32 0)).setCell ⟨W.heap.size, 1, none⟩ (.int .u32 0)).setCell ⟨W.heap.size, 2, none⟩ (.int .u32 0)).setCell ⟨W.heap.size, 3, none⟩ (.int .u32 0) := by simp [set4, wd]
  go_enter Tryd.func41, Tryd.ntmps41
  go_wp2
  rw [← e0]
  exact ret4 rfl rfl rfl (fin4 G1.out 0) ⟨rfl, below4 hb1 (Nat.le_refl _) _⟩
set_option maxHeartbeats 1000000 in
theorem take_nil (f r : Int) (N : Nat) (W : World) : Calls Tryd.prog 9 #[.pointer none, .int .i64 f, .int .i64 r, sv N] W fun e w' => e = .returned (.tuple #[.int .i64 0, .int .i64 1]) ∧ Below W.heap.size W w' := by
  simp only [sv]
  go_enter Tryd.func9, Tryd.ntmps9
  go_wp2
  go_ret2
  exact ⟨rfl, al1' _ _⟩
theorem zero_ta (u : World) (base : Nat) (hb : base ≤ u.heap.size) : Ta (u.alloc (.cells #[.int .i64 0, .int .i64 0, .int .i64 0, .int .u32 0, .int .u32 0, .int .u32 0, .int .u32 0, .slice none 0 0] 67)) base u.heap.size none 0 (tl0 0 0 0) := ⟨hb, new_tl0 u 0 0 0, World.ownsRow_nil _ _ _ _⟩
theorem zero_tv : Tv (tl0 0 0 0) := ⟨by decide, by decide, by decide, by decide, by decide, by decide, by decide, by intro N h; cases h⟩
theorem zero_fate (f r : Int) (N : Nat) : fate (tl0 0 0 0) f r N = 0 := by
  unfold fate isN
  rw [if_pos]
  simp [tl0]
theorem zero_tk (f r : Int) (N : Nat) : tk (tl0 0 0 0) f r N = tl0 0 0 0 := by
  unfold tk
  rw [zero_fate, if_neg (by decide)]
end Go.Proofs.YtgehmidalfajgaaDoor
