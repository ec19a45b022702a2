/- A Boot in a world; boot's small calls: what they answer. -/
import Derived.Test.YtjleggnkacmbbaaBta
import Derived.Laws.EntriesVeiled
namespace Go.Proofs.Ytjleggnkacmbbaa
open Go.RowKit Go.Shelf Go.Lib

/-- What a Boot has: the durable record, the round, the tag. -/
structure Bo where
  r : Rec
  ro : Int
  ta : Int
def btC (b : Bo) (P : Option Addr) : Array Value := #[.int .i64 b.r.li, .int .i64 b.r.ro, .int .i64 b.r.ta, .pointer P, .int .i64 b.ro, .int .i64 b.ta]
/-- A Boot lies at q; its disk's pointer is P. -/
def Bt (W : World) (q : Nat) (P : Option Addr) (b : Bo) : Prop := W.heap[q]? = some (.cells (btC b P) 57 (0, 0))
theorem Bt.carry {W V : World} {q : Nat} {P : Option Addr} {b : Bo} (h : Bt W q P b) (hb : Below W.heap.size W V) : Bt V q P b := (hb.block _ (lt_at h)).trans h
/-- Beyond a round, beyond a tag. -/
def bR (x : Int) : Int := if 1099511627775 < x + 16 then 1099511627775 else x + 16
def bT (x : Int) : Int := if 1048576 < x + 4 then 1048576 else x + 4
set_option maxHeartbeats 1000000 in
set_option maxRecDepth 100000 in
theorem rounds_any (x : Int) (h1 : -9223372036854775808 ≤ x) (h2 : x ≤ 9223372036854775791) (W : World) : Calls Try.prog 26 #[.int .i64 x] W fun e w' => e = .returned (.int .i64 (bR x)) ∧ w' = W := by
  have hw := i64_id (x + 16) (by omega) (by omega)
  by_cases h : 1099511627775 < x + 16
  · rw [bR, if_pos h]
    go_enter Try.func26, Try.ntmps26
    go_wp2
    all_goals (go_ret; first | exact ⟨rfl, rfl⟩ | omega)
  · rw [bR, if_neg h]
    go_enter Try.func26, Try.ntmps26
    go_wp2
    all_goals (go_ret; first | exact ⟨rfl, rfl⟩ | omega)
set_option maxHeartbeats 1000000 in
set_option maxRecDepth 100000 in
theorem tags_any (x : Int) (h1 : -9223372036854775808 ≤ x) (h2 : x ≤ 9223372036854775791) (W : World) : Calls Try.prog 27 #[.int .i64 x] W fun e w' => e = .returned (.int .i64 (bT x)) ∧ w' = W := by
  have hw := i64_id (x + 4) (by omega) (by omega)
  by_cases h : 1048576 < x + 4
  · rw [bT, if_pos h]
    go_enter Try.func27, Try.ntmps27
    go_wp2
    all_goals (go_ret; first | exact ⟨rfl, rfl⟩ | omega)
  · rw [bT, if_neg h]
    go_enter Try.func27, Try.ntmps27
    go_wp2
    all_goals (go_ret; first | exact ⟨rfl, rfl⟩ | omega)
section
variable {W : World} {q p : Nat} {P : Option Addr} {b : Bo} {d : Dst}
set_option maxHeartbeats 1000000 in
set_option maxRecDepth 100000 in
theorem ready_any (h : Bt W q (some ⟨p, 0, none⟩) b) (hd : Dk W p d) : Calls Try.prog 28 #[.pointer (some ⟨q, 0, none⟩)] W fun e w' => e = .returned (.int .i64 (if d.off then 100 else 0)) ∧ w' = W := by
  have c := cell_at h 3
  have ho := on_any hd
  unfold btC at c
  simp at c
  cases hf : d.off
  all_goals
    rw [hf] at ho
    simp only [Bool.not_false, Bool.not_true] at ho
    go_enter Try.func28, Try.ntmps28
    go_wp2_with (go_at_call 38; (with_reducible refine ho.mono ?_); rintro e u ⟨rfl, hu⟩; obtain rfl := hu.symm)
    go_ret
    exact ⟨rfl, rfl⟩
set_option maxHeartbeats 1000000 in
set_option maxRecDepth 100000 in
theorem bround_any (h : Bt W q P b) : Calls Try.prog 39 #[.pointer (some ⟨q, 0, none⟩)] W fun e w' => e = .returned (.int .i64 b.ro) ∧ w' = W := by
  have c := cell_at h 4
  unfold btC at c
  simp at c
  go_enter Try.func39, Try.ntmps39
  go_wp2
  go_ret
  exact ⟨rfl, rfl⟩
set_option maxHeartbeats 1000000 in
set_option maxRecDepth 100000 in
theorem btag_any (h : Bt W q P b) : Calls Try.prog 16 #[.pointer (some ⟨q, 0, none⟩)] W fun e w' => e = .returned (.int .i64 b.ta) ∧ w' = W := by
  have c := cell_at h 5
  unfold btC at c
  simp at c
  go_enter Try.func16, Try.ntmps16
  go_wp2
  go_ret
  exact ⟨rfl, rfl⟩
set_option maxHeartbeats 1000000 in
set_option maxRecDepth 100000 in
theorem durable_any (h : Bt W q P b) : Calls Try.prog 15 #[.pointer (some ⟨q, 0, none⟩)] W fun e w' => e = .returned (rV b.r) ∧ Below W.heap.size W w' := by
  obtain ⟨w1, hw1⟩ : ∃ w1, W.alloc (.cells #[.int .i64 0, .int .i64 0, .int .i64 0] 36) = w1 := ⟨_, rfl⟩
  have hb1 : Below W.heap.size W w1 := by rw [← hw1]; exact al1' _ _
  have hg1 : w1.heap[W.heap.size]? = some (.cells #[.int .i64 0, .int .i64 0, .int .i64 0] 36 (0, 0)) := by rw [← hw1]; exact new_at rfl
  have h1 := h.carry hb1
  have c0 := cell_at h1 0
  have c1 := cell_at h1 1
  have c2 := cell_at h1 2
  unfold btC at c0 c1 c2
  simp at c0 c1 c2
  go_enter Try.func15, Try.ntmps15
  go_wp2_with (refine wpList_store_row rfl 36 (.tmp 2) (.tmp 10) rfl W.heap.size #[.int .i64 b.r.li, .int .i64 b.r.ro, .int .i64 b.r.ta] rfl rfl 36 _ hg1 infoR rfl (by simp [Value.oneCell']) ?_; obtain ⟨v, hv⟩ : ∃ v, w1.setRow W.heap.size #[.int .i64 b.r.li, .int .i64 b.r.ro, .int .i64 b.r.ta] = v := ⟨_, rfl⟩; have HV : Hid (v.heap[W.heap.size]? = some (.cells #[.int .i64 b.r.li, .int .i64 b.r.ro, .int .i64 b.r.ta] 36 (0, 0))) := (by rw [← hv]; exact setRow_heap _ _ _ _ _ _ hg1); have HB : Hid (Below W.heap.size W v) := (by rw [← hv]; exact below_setRow hb1 (Nat.le_refl _) _); rw [hv])
  (try simp only [Exit.inBlock, Exit.then])
  refine bodyPost_ret (results_cell_row rfl _ _ W.heap.size _ _ (0, 0) _ rfl HV.out undR rfl infoR) rfl ?_
  exact ⟨rfl, HB.out⟩
theorem field_R0 (x y z : Int) (w : World) : (Instr.field 36 (.agg #[.int .i64 x, .int .i64 y, .int .i64 z]) 0).run Try.prog w = .ok (.int .i64 x) w := by kernel_rfl
set_option maxHeartbeats 1000000 in
set_option maxRecDepth 100000 in
theorem life_any (h : Bt W q P b) : Calls Try.prog 18 #[.pointer (some ⟨q, 0, none⟩)] W fun e w' => e = .returned (.int .i64 b.r.li) ∧ Below W.heap.size W w' := by
  have hd := durable_any h
  unfold rV at hd
  have hfl := field_R0
  go_enter Try.func18, Try.ntmps18
  go_wp2_with (go_at_call 15; (with_reducible refine hd.mono ?_); rintro e u ⟨rfl, hu⟩)
  go_ret
  exact ⟨rfl, hu⟩
end
end Go.Proofs.Ytjleggnkacmbbaa
