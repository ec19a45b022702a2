/- disk's Read, Twin, Of; the statements' sector; earshotbook.SameBytes where they are alike; the statements' alive. -/
import Derived.Test.YtjleggnkacmbbaaDke
namespace Go.Proofs.Ytjleggnkacmbbaa
open Go.RowKit Go.Shelf

section
variable {W : World} {p : Nat} {d : Dst}
set_option maxHeartbeats 1000000 in
theorem read_off (h : Dk W p d) (s : Int) (ho : d.off = true) : Calls Try.prog 61 #[.pointer (some ⟨p, 0, none⟩), .int .i64 s] W fun e w' => e = .returned (.tuple #[.slice none 0 0, .int .i64 100]) ∧ w' = W := by
  have hon := on_any h
  rw [ho] at hon
  go_enter Try.func61, Try.ntmps61
  go_wp2_with (go_at_call 38; (with_reducible refine hon.mono ?_); rintro e u1 ⟨rfl, rfl⟩)
  go_ret2
  exact ⟨rfl, rfl⟩
set_option maxHeartbeats 1000000 in
theorem read_sec (h : Dk W p d) (s : Int) (ho : d.off = false) (hs : ¬ (0 ≤ s ∧ s < 8)) : Calls Try.prog 61 #[.pointer (some ⟨p, 0, none⟩), .int .i64 s] W fun e w' => e = .returned (.tuple #[.slice none 0 0, .int .i64 101]) ∧ w' = W := by
  have hon := on_any h
  rw [ho] at hon
  have hth := there_any s W
  rw [decide_eq_false hs] at hth
  go_enter Try.func61, Try.ntmps61
  go_wp2_with (first | (go_at_call 38; (with_reducible refine hon.mono ?_); rintro e u1 ⟨rfl, rfl⟩) | (go_at_call 68; (with_reducible refine hth.mono ?_); rintro e u1 ⟨rfl, rfl⟩))
  go_ret2
  exact ⟨rfl, rfl⟩
/-- A sector's bytes. -/
def secs (l : List Nat) (k : Nat) : List Nat := (l.drop (32 * k)).take 32
theorem secs_len {l : List Nat} (h : l.length = 256) {k : Nat} (hk : k < 8) : (secs l k).length = 32 := by rw [secs, List.length_take, List.length_drop, h]; omega
set_option maxHeartbeats 1000000 in
theorem read_ok (h : Dk W p d) (k : Nat) (ho : d.off = false) (hk : k < 8) : Calls Try.prog 61 #[.pointer (some ⟨p, 0, none⟩), .int .i64 (k : Int)] W fun e w' => ∃ g c, e = .returned (.tuple #[.slice (some ⟨g, 32 * k, none⟩) 32 32, .int .i64 0]) ∧ w'.ownsRow W.heap.size 5 1 (.slice (some ⟨g, 0, none⟩) 256 c) 256 (cB d.l) ∧ RdY w' (some ⟨g, 32 * k, none⟩) (secs d.l k) ∧ Below W.heap.size W w' := by
  have hon := on_any h
  rw [ho] at hon
  have hth := there_any (k : Int) W
  rw [decide_eq_true (show 0 ≤ (k : Int) ∧ (k : Int) < 8 by omega)] at hth
  have him := image_any h
  have hl := h.len
  have HL : Hid (d.l.length = 256) := hl
  clear hl
  go_enter Try.func61, Try.ntmps61
  go_wp2_with (first | (go_at_call 38; (with_reducible refine hon.mono ?_); rintro e u1 ⟨rfl, rfl⟩) | (go_at_call 68; (with_reducible refine hth.mono ?_); rintro e u1 ⟨rfl, rfl⟩) | (go_at_call 37; (with_reducible refine him.mono ?_); rintro e u2 ⟨g, c, rfl, ho2, hb2⟩; have hc2 := own_cap ho2; have hpa := part_any g 0 c k u2 hk hc2; rw [Nat.zero_add] at hpa) | (go_at_call 46; (with_reducible refine hpa.mono ?_); rintro e u3 ⟨rfl, rfl⟩))
  go_ret2
  refine ⟨g, c, rfl, ho2, fun _ => ⟨g, 32 * k, rfl, ?_, ?_⟩, hb2⟩
  · rcases own_form ho2 with ⟨_, e2⟩ | ⟨g', c', e1, _, _, _, _, h5⟩
    · cases e2
    · cases e1
      exact h5
  · have := (b_own ho2 HL.out.symm).sub (32 * k) 32
    rw [Nat.zero_add] at this
    exact this
end
end Go.Proofs.Ytjleggnkacmbbaa
