/- Of a zero Boot, of a nil one, of no disk. -/
import Derived.Test.YtjleggnkacmbbabBth
namespace Go.Proofs.Ytjleggnkacmbbab
open Go.RowKit Go.Shelf Go.Lib

set_option maxHeartbeats 1000000 in
theorem on_nil (W : World) : Calls Try.prog 22 #[.pointer none] W fun e w' => e = .returned (.bool false) ∧ w' = W := by
  go_enter Try.func22, Try.ntmps22
  go_wp2
  go_ret
  exact ⟨rfl, rfl⟩
set_option maxHeartbeats 4000000 in
set_option maxRecDepth 100000 in
theorem newest_nil (W : World) : Calls Try.prog 24 #[.pointer none] W fun e w' => e = .returned (ntV ⟨rec0, 0, 0, 100⟩) ∧ Below W.heap.size W w' := by
  obtain ⟨w1, hw1⟩ : ∃ w1, W.alloc (.cells #[.int .i64 0, .int .i64 0, .int .i64 0, .int .i64 0] 50) = w1 := ⟨_, rfl⟩
  have hj : JN W ⟨rec0, 0, 0, 40⟩ w1 := by rw [← hw1]; exact ⟨new_at rfl, al1' _ _⟩
  have hon := on_nil w1
  go_enter Try.func24, Try.ntmps24
  go_wp2_with (first | (go_at_call 22; (with_reducible refine hon.mono ?_); rintro e u1 ⟨rfl, hu⟩; obtain rfl := hu.symm) | (refine wpList_store_row rfl 50 (.tmp 2) (.tmp 11) rfl W.heap.size #[.int .i64 0, .int .i64 0, .int .i64 0, .int .i64 0] rfl rfl 50 _ hj.1 infoE rfl (by simp [Value.oneCell']) ?_; obtain ⟨v, hv⟩ : ∃ v, w1.setRow W.heap.size #[.int .i64 0, .int .i64 0, .int .i64 0, .int .i64 0] = v := ⟨_, rfl⟩; have hjv : JN W ⟨rec0, 0, 0, 40⟩ v := (by rw [← hv]; exact hj.put); rw [hv]))
  (try simp only [Exit.inBlock, Exit.then])
  exact retC3 rfl rfl rfl rfl rfl hjv.1 undE infoE ⟨rfl, hjv.2⟩
theorem load_nil (W : World) : Calls Try.prog 18 #[.pointer none] W fun e w' => e = .returned (.tuple #[.agg #[.int .i64 0, .int .i64 0, .int .i64 0], .int .i64 0, .int .i64 100]) ∧ Below W.heap.size W w' := load_of _ ⟨rec0, 0, 0, 100⟩ fun V _ => newest_nil V
section
variable {W : World} {q : Nat}
set_option maxHeartbeats 1000000 in
set_option maxRecDepth 100000 in
theorem ready_z {b : Bo} (h : Bt W q none b) : Calls Try.prog 12 #[.pointer (some ⟨q, 0, none⟩)] W fun e w' => e = .returned (.int .i64 100) ∧ w' = W := by
  have c := cell_at h 3
  have ho := on_nil W
  unfold btC at c
  simp at c
  go_enter Try.func12, Try.ntmps12
  go_wp2_with (go_at_call 22; (with_reducible refine ho.mono ?_); rintro e u ⟨rfl, hu⟩; obtain rfl := hu.symm)
  go_ret
  exact ⟨rfl, rfl⟩
set_option maxHeartbeats 1000000 in
set_option maxRecDepth 100000 in
theorem ready_n (W : World) : Calls Try.prog 12 #[.pointer none] W fun e w' => e = .returned (.int .i64 1) ∧ w' = W := by
  go_enter Try.func12, Try.ntmps12
  go_wp2
  go_ret
  exact ⟨rfl, rfl⟩
/-- What refuses: the zero Boot or the nil one. -/
theorem next_of (P : Option Addr) (e0 : Int) (he : ¬ e0 = 0) (hr : ∀ V, Below W.heap.size W V → Calls Try.prog 12 #[.pointer P] V fun e w' => e = .returned (.int .i64 e0) ∧ w' = V) : Calls Try.prog 4 #[.pointer P] W fun e w' => e = .returned (.tuple #[.int .i64 0, .int .i64 e0]) ∧ Below W.heap.size W w' := by
  obtain ⟨w1, hw1⟩ : ∃ w1, W.alloc (.cells #[.pointer P] 22) = w1 := ⟨_, rfl⟩
  have hb1 : Below W.heap.size W w1 := by rw [← hw1]; exact al1' _ _
  have hx1 : w1.heap[W.heap.size]? = some (.cells #[.pointer P] 22 (0, 0)) := by rw [← hw1]; exact new_at rfl
  have cx1 := cell_at hx1 0
  simp at cx1
  have hr1 := hr w1 hb1
  go_enter Try.func4, Try.ntmps4
  go_wp2_with (go_at_call 12; (with_reducible refine hr1.mono ?_); rintro e u ⟨rfl, hu⟩; obtain rfl := hu.symm)
  go_ret2
  exact ⟨rfl, hb1⟩
theorem raise_of (P : Option Addr) (t e0 : Int) (he : ¬ e0 = 0) (hr : ∀ V, Below W.heap.size W V → Calls Try.prog 12 #[.pointer P] V fun e w' => e = .returned (.int .i64 e0) ∧ w' = V) : Calls Try.prog 5 #[.pointer P, .int .i64 t] W fun e w' => e = .returned (.int .i64 e0) ∧ Below W.heap.size W w' := by
  obtain ⟨w1, hw1⟩ : ∃ w1, W.alloc (.cells #[.int .i64 t] 3) = w1 := ⟨_, rfl⟩
  have hb1 : Below W.heap.size W w1 := by rw [← hw1]; exact al1' _ _
  have hr1 := hr w1 hb1
  go_enter Try.func5, Try.ntmps5
  go_wp2_with (go_at_call 12; (with_reducible refine hr1.mono ?_); rintro e u ⟨rfl, hu⟩; obtain rfl := hu.symm)
  go_ret
  exact ⟨rfl, hb1⟩
set_option maxHeartbeats 4000000 in
set_option maxRecDepth 100000 in
theorem open_n (W : World) : Calls Try.prog 6 #[.pointer none] W fun e w' => e = .returned (.tuple #[.pointer none, .int .i64 100]) ∧ Below W.heap.size W w' := by
  have hld := load_nil W
  go_enter Try.func6, Try.ntmps6
  go_wp2_with (go_at_call 18; (with_reducible refine hld.mono ?_); rintro e u1 ⟨rfl, hu1⟩)
  go_ret2
  exact ⟨rfl, bel2 hu1 (al1' _ _)⟩
set_option maxHeartbeats 1000000 in
set_option maxRecDepth 100000 in
theorem round_n (W : World) : Calls Try.prog 9 #[.pointer none] W fun e w' => e = .returned (.int .i64 0) ∧ w' = W := by
  go_enter Try.func9, Try.ntmps9
  go_wp2
  go_ret
  exact ⟨rfl, rfl⟩
set_option maxHeartbeats 1000000 in
set_option maxRecDepth 100000 in
theorem tag_n (W : World) : Calls Try.prog 10 #[.pointer none] W fun e w' => e = .returned (.int .i64 0) ∧ w' = W := by
  go_enter Try.func10, Try.ntmps10
  go_wp2
  go_ret
  exact ⟨rfl, rfl⟩
set_option maxHeartbeats 1000000 in
set_option maxRecDepth 100000 in
theorem durable_n (W : World) : Calls Try.prog 11 #[.pointer none] W fun e w' => e = .returned (.agg #[.int .i64 0, .int .i64 0, .int .i64 0]) ∧ Below W.heap.size W w' := by
  obtain ⟨w1, hw1⟩ : ∃ w1, W.alloc (.cells #[.int .i64 0, .int .i64 0, .int .i64 0] 24) = w1 := ⟨_, rfl⟩
  have hb1 : Below W.heap.size W w1 := by rw [← hw1]; exact al1' _ _
  have hg1 : w1.heap[W.heap.size]? = some (.cells #[.int .i64 0, .int .i64 0, .int .i64 0] 24 (0, 0)) := by rw [← hw1]; exact new_at rfl
  go_enter Try.func11, Try.ntmps11
  go_wp2_with (refine wpList_store_row rfl 24 (.tmp 2) (.tmp 5) rfl W.heap.size #[.int .i64 0, .int .i64 0, .int .i64 0] rfl rfl 24 _ hg1 infoR rfl (by simp [Value.oneCell']) ?_; obtain ⟨v, hv⟩ : ∃ v, w1.setRow W.heap.size #[.int .i64 0, .int .i64 0, .int .i64 0] = v := ⟨_, rfl⟩; have HV : Hid (v.heap[W.heap.size]? = some (.cells #[.int .i64 0, .int .i64 0, .int .i64 0] 24 (0, 0))) := (by rw [← hv]; exact setRow_heap _ _ _ _ _ _ hg1); have HB : Hid (Below W.heap.size W v) := (by rw [← hv]; exact below_setRow hb1 (Nat.le_refl _) _); rw [hv])
  (try simp only [Exit.inBlock, Exit.then])
  refine bodyPost_ret (results_cell_row rfl _ _ W.heap.size _ _ (0, 0) _ rfl HV.out undR rfl infoR) rfl ?_
  exact ⟨rfl, HB.out⟩
set_option maxHeartbeats 1000000 in
set_option maxRecDepth 100000 in
theorem life_n (W : World) : Calls Try.prog 8 #[.pointer none] W fun e w' => e = .returned (.int .i64 0) ∧ Below W.heap.size W w' := by
  have hd := durable_n W
  have hfl := field_R0
  go_enter Try.func8, Try.ntmps8
  go_wp2_with (go_at_call 11; (with_reducible refine hd.mono ?_); rintro e u ⟨rfl, hu⟩)
  go_ret
  exact ⟨rfl, hu⟩
end
end Go.Proofs.Ytjleggnkacmbbab
