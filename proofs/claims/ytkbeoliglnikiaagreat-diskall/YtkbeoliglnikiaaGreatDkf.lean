/- disk's Read, Twin, Of; the statements' sector; earshotbook.SameBytes where they are alike; the statements' alive. -/
import Derived.Test.YtkbeoliglnikiaaGreatDke
namespace Go.Proofs.YtkbeoliglnikiaaGreat
open Go.RowKit Go.Shelf

section
variable {W : World} {p : Nat} {d : Dst}
set_option maxHeartbeats 1000000 in
theorem read_off (h : Dk W p d) (s : Int) (ho : d.off = true) : Calls Tryz.prog 16 #[.pointer (some ⟨p, 0, none⟩), .int .i64 s] W fun e w' => e = .returned (.tuple #[.slice none 0 0, .int .i64 100]) ∧ w' = W := by
  have hon := on_any h
  rw [ho] at hon
  go_enter Tryz.func16, Tryz.ntmps16
  go_wp2_with (go_at_call 32; (with_reducible refine hon.mono ?_); rintro e u1 ⟨rfl, rfl⟩)
  go_ret2
  exact ⟨rfl, rfl⟩
set_option maxHeartbeats 1000000 in
theorem read_sec (h : Dk W p d) (s : Int) (ho : d.off = false) (hs : ¬ (0 ≤ s ∧ s < 8)) : Calls Tryz.prog 16 #[.pointer (some ⟨p, 0, none⟩), .int .i64 s] W fun e w' => e = .returned (.tuple #[.slice none 0 0, .int .i64 101]) ∧ w' = W := by
  have hon := on_any h
  rw [ho] at hon
  have hth := there_any s W
  rw [decide_eq_false hs] at hth
  go_enter Tryz.func16, Tryz.ntmps16
  go_wp2_with (first | (go_at_call 32; (with_reducible refine hon.mono ?_); rintro e u1 ⟨rfl, rfl⟩) | (go_at_call 81; (with_reducible refine hth.mono ?_); rintro e u1 ⟨rfl, rfl⟩))
  go_ret2
  exact ⟨rfl, rfl⟩
/-- A sector's bytes. -/
def secs (l : List Nat) (k : Nat) : List Nat := (l.drop (32 * k)).take 32
theorem secs_len {l : List Nat} (h : l.length = 256) {k : Nat} (hk : k < 8) : (secs l k).length = 32 := by rw [secs, List.length_take, List.length_drop, h]; omega
set_option maxHeartbeats 1000000 in
theorem read_ok (h : Dk W p d) (k : Nat) (ho : d.off = false) (hk : k < 8) : Calls Tryz.prog 16 #[.pointer (some ⟨p, 0, none⟩), .int .i64 (k : Int)] W fun e w' => ∃ g c, e = .returned (.tuple #[.slice (some ⟨g, 32 * k, none⟩) 32 32, .int .i64 0]) ∧ w'.ownsRow W.heap.size 5 1 (.slice (some ⟨g, 0, none⟩) 256 c) 256 (cB d.l) ∧ RdY w' (some ⟨g, 32 * k, none⟩) (secs d.l k) ∧ Below W.heap.size W w' := by
  have hon := on_any h
  rw [ho] at hon
  have hth := there_any (k : Int) W
  rw [decide_eq_true (show 0 ≤ (k : Int) ∧ (k : Int) < 8 by omega)] at hth
  have him := image_any h
  have hl := h.len
  have HL : Hid (d.l.length = 256) := hl
  clear hl
  go_enter Tryz.func16, Tryz.ntmps16
  go_wp2_with (first | (go_at_call 32; (with_reducible refine hon.mono ?_); rintro e u1 ⟨rfl, rfl⟩) | (go_at_call 81; (with_reducible refine hth.mono ?_); rintro e u1 ⟨rfl, rfl⟩) | (go_at_call 31; (with_reducible refine him.mono ?_); rintro e u2 ⟨g, c, rfl, ho2, hb2⟩; have hc2 := own_cap ho2; have hpa := part_any g 0 c k u2 hk hc2; rw [Nat.zero_add] at hpa) | (go_at_call 20; (with_reducible refine hpa.mono ?_); rintro e u3 ⟨rfl, rfl⟩))
  go_ret2
  refine ⟨g, c, rfl, ho2, fun _ => ⟨g, 32 * k, rfl, ?_, ?_⟩, hb2⟩
  · rcases own_form ho2 with ⟨_, e2⟩ | ⟨g', c', e1, _, _, _, _, h5⟩
    · cases e2
    · cases e1
      exact h5
  · have := (b_own ho2 HL.out.symm).sub (32 * k) 32
    rw [Nat.zero_add] at this
    exact this
theorem dkC_one (d : Dst) : ∀ u ∈ dkC d, u.oneCell' = true := by
  intro u hu
  rw [dkC, List.mem_append] at hu
  rcases hu with q | q
  · exact cB_one _ u q
  · simp at q
    rcases q with rfl | rfl | rfl | rfl <;> rfl
theorem und47 : Tryz.prog.underlying 57 = some (.struct ((match Tryz.prog.underlying 57 with | some (.struct f) => f | _ => #[]))) := by kernel_rfl
set_option maxHeartbeats 1000000 in
set_option maxRecDepth 100000 in
theorem twin_any (h : Dk W p d) : Calls Tryz.prog 10 #[.pointer (some ⟨p, 0, none⟩)] W fun e w' => e = .returned (.pointer (some ⟨W.heap.size, 0, none⟩)) ∧ Dk w' W.heap.size d ∧ Below W.heap.size W w' := by
  have hz := zerD
  obtain ⟨C, hC⟩ : ∃ C, (dkC d0).toArray = C := ⟨_, rfl⟩
  rw [hC] at hz
  have hCs : C.size = 260 := by rw [← hC]; rfl
  have hds : (dkC d).toArray.size = 260 := by rw [List.size_toArray, dkC_len h.len]
  obtain ⟨D, hD⟩ : ∃ D, (dkC d).toArray = D := ⟨_, rfl⟩
  have h1 : D.all (·.oneCell') = true := by
    rw [← hD, Array.all_eq_true_iff_forall_mem]
    intro v hv
    exact dkC_one d v (by simpa using hv)
  have hobj := h.obj
  rw [hD] at hobj hds
  obtain ⟨w1, hw1⟩ : ∃ w1, W.alloc (.cells C 57) = w1 := ⟨_, rfl⟩
  have hb1 : Below W.heap.size W w1 := by rw [← hw1]; exact al1' _ _
  have hg1 : w1.heap[W.heap.size]? = some (.cells C 57 (0, 0)) := by rw [← hw1]; exact new_at rfl
  have hzl : (Tryz.prog.info? 57).map (·.size) = some D.size := by rw [hds]; exact infoD
  have hzo : C.size = D.size := by rw [hds, hCs]
  have HDD : Hid ((dkC d).toArray = D) := hD
  clear hD hC hCs hds
  go_enter Tryz.func10, Tryz.ntmps10
  go_wp2_with (first | (refine wpList_load_row rfl 57 (.tmp 7) rfl p rfl 57 D (0, 0) _ hobj und47 rfl hzl ?_) | (refine wpList_store_row rfl 57 (.tmp 3) (.tmp 8) rfl W.heap.size D rfl rfl 57 C hg1 hzl hzo h1 ?_; obtain ⟨v, hv⟩ : ∃ v, w1.setRow W.heap.size D = v := ⟨_, rfl⟩; have HV : Hid (v.heap[W.heap.size]? = some (.cells D 57 (0, 0))) := (by rw [← hv]; exact setRow_heap _ _ _ _ _ _ hg1); have HB : Hid (Below W.heap.size W v) := (by rw [← hv]; exact below_setRow hb1 (Nat.le_refl _) _)))
  go_ret
  refine ⟨rfl, ⟨?_, h.len, h.byt⟩, HB.out⟩
  rw [HDD.out]
  exact HV.out
end
end Go.Proofs.YtkbeoliglnikiaaGreat
