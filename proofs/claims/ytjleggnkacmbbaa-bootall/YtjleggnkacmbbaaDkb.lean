/- disk's New, On, Left, Writes, Cut, Restore, Fuse, there, burn, blow, filled, part, Twin: what they answer. -/
import Derived.Test.YtjleggnkacmbbaaDka
import Derived.Test.YtjleggnkacmbbaaBin
import Derived.Shelf.RegionOpen
import Derived.WalkKit
import Derived.WalkSpells
import Derived.OwnWalkIn
import Derived.TacticsInMore
import Derived.LoopNIn
import Derived.LoopIn
import Derived.Lib.OthersKept
import Derived.Deep.Light
import Derived.Laws.IdiomStrings
namespace Go.Proofs.Ytjleggnkacmbbaa
open Go.RowKit Go.Shelf

/-- The fuse as it is told. -/
def left (d : Dst) : Int := if d.fused then d.fuse else -1
def pD (p : Nat) : Value := .pointer (some ⟨p, 0, none⟩)
theorem zerD : ∀ w : World, (zeroValue 51).run Try.prog w = .ok (.agg (dkC d0).toArray) w := (zero_of_info (n := 260) (by kernel_rfl)).1
theorem boxD (C : Array Value) (w : World) : (Instr.box 51 (.agg C)).run Try.prog w = .ok (.pointer (some ⟨w.heap.size, 0, none⟩)) (w.alloc (.cells C 51)) := by kernel_rfl
theorem i64_id (x : Int) (h1 : -9223372036854775808 ≤ x) (h2 : x ≤ 9223372036854775807) : IntKind.i64.wrap x = x := by
  rw [IntKind.wrap_i64]
  omega
set_option maxHeartbeats 1000000 in
set_option maxRecDepth 100000 in
theorem dnew_any (w : World) : Calls Try.prog 11 #[] w fun e w' => e = .returned (.pointer (some ⟨w.heap.size, 0, none⟩)) ∧ Dk w' w.heap.size d0 ∧ w.heap.size < w'.heap.size ∧ Below w.heap.size w w' := by
  have h1 := zerD
  have h2 := boxD
  obtain ⟨C, hC⟩ : ∃ C, (dkC d0).toArray = C := ⟨_, rfl⟩
  rw [hC] at h1
  go_enter Try.func11, Try.ntmps11
  go_wp2
  go_ret
  refine ⟨rfl, ?_, by simp, al1' _ _⟩
  rw [← hC]
  exact ⟨new_at rfl, by simp [d0], byt_zero 256⟩
section
variable {W : World} {p : Nat} {d : Dst}
set_option maxHeartbeats 1000000 in
theorem on_any (h : Dk W p d) : Calls Try.prog 38 #[.pointer (some ⟨p, 0, none⟩)] W fun e w' => e = .returned (.bool (!d.off)) ∧ w' = W := by
  have c := h.c0
  go_enter Try.func38, Try.ntmps38
  go_wp2
  go_ret
  exact ⟨rfl, rfl⟩
set_option maxHeartbeats 1000000 in
theorem left_any (h : Dk W p d) : Calls Try.prog 69 #[.pointer (some ⟨p, 0, none⟩)] W fun e w' => e = .returned (.int .i64 (left d)) ∧ w' = W := by
  have c := h.c1
  have c2 := h.c2
  obtain ⟨l, of, fd, fu, wr⟩ := d
  cases fd
  all_goals
    go_enter Try.func69, Try.ntmps69
    go_wp2
    go_ret
    exact ⟨rfl, rfl⟩
set_option maxHeartbeats 1000000 in
theorem writes_any (h : Dk W p d) : Calls Try.prog 14 #[.pointer (some ⟨p, 0, none⟩)] W fun e w' => e = .returned (.int .i64 d.writes) ∧ w' = W := by
  have c := h.c3
  go_enter Try.func14, Try.ntmps14
  go_wp2
  go_ret
  exact ⟨rfl, rfl⟩
set_option maxHeartbeats 1000000 in
theorem cut_any (h : Dk W p d) : Calls Try.prog 53 #[.pointer (some ⟨p, 0, none⟩)] W fun e w' => e = .returned (.tuple #[]) ∧ Dk w' p { d with off := true } ∧ Tp p W w' := by
  have c := h.c0
  have z := h.thaw 256
  go_enter Try.func53, Try.ntmps53
  go_wp2
  go_end0
  exact ⟨rfl, h.s0 true, Tp.set _ _ _ _⟩
set_option maxHeartbeats 1000000 in
theorem restore_any (h : Dk W p d) : Calls Try.prog 19 #[.pointer (some ⟨p, 0, none⟩)] W fun e w' => e = .returned (.tuple #[]) ∧ Dk w' p { d with off := false } ∧ Tp p W w' := by
  have c := h.c0
  have z := h.thaw 256
  go_enter Try.func19, Try.ntmps19
  go_wp2
  go_end0
  exact ⟨rfl, h.s0 false, Tp.set _ _ _ _⟩
/-- The disk with another fuse. -/
def dFuse (d : Dst) (k : Int) : Dst := { d with fused := decide (0 ≤ k), fuse := if 0 ≤ k then k else 0 }
set_option maxHeartbeats 1000000 in
theorem fuse_any (h : Dk W p d) (k : Int) : Calls Try.prog 20 #[.pointer (some ⟨p, 0, none⟩), .int .i64 k] W fun e w' => e = .returned (.tuple #[]) ∧ Dk w' p (dFuse d k) ∧ Tp p W w' := by
  have c1 := h.c1
  have z1 := h.thaw 257
  by_cases hk : 0 ≤ k
  · have h1 := h.s1 true
    have c2 := h1.c2
    have z2 := h1.thaw 258
    go_enter Try.func20, Try.ntmps20
    go_wp2
    go_end0
    refine ⟨rfl, ?_, (Tp.set _ _ _ _).trans (Tp.set _ _ _ _)⟩
    have e : dFuse d k = { { d with fused := true } with fuse := k } := by simp [dFuse, hk]
    rw [e]
    exact h1.s2 k
  · have h1 := h.s1 false
    have c2 := h1.c2
    have z2 := h1.thaw 258
    have hk2 : k ≤ 0 := by omega
    go_enter Try.func20, Try.ntmps20
    go_wp2
    go_end0
    refine ⟨rfl, ?_, (Tp.set _ _ _ _).trans (Tp.set _ _ _ _)⟩
    have e : dFuse d k = { { d with fused := false } with fuse := 0 } := by unfold dFuse; rw [decide_eq_false (Int.not_le.2 hk), if_neg (Int.not_le.2 hk)]
    rw [e]
    exact h1.s2 0
theorem there_any (s : Int) (w : World) : Calls Try.prog 68 #[.int .i64 s] w fun e w' => e = .returned (.bool (decide (0 ≤ s ∧ s < 8))) ∧ w' = w := by
  by_cases h1 : 0 ≤ s
  · by_cases h2 : s < 8
    · rw [decide_eq_true (show 0 ≤ s ∧ s < 8 from ⟨h1, h2⟩)]
      go_enter Try.func68, Try.ntmps68
      go_wp2
      go_ret
      exact ⟨rfl, rfl⟩
    · rw [decide_eq_false (show ¬ (0 ≤ s ∧ s < 8) from fun q => h2 q.2)]
      go_enter Try.func68, Try.ntmps68
      go_wp2
      go_ret
      exact ⟨rfl, rfl⟩
  · rw [decide_eq_false (show ¬ (0 ≤ s ∧ s < 8) from fun q => h1 q.1)]
    go_enter Try.func68, Try.ntmps68
    go_wp2
    go_ret
    exact ⟨rfl, rfl⟩
/-- A write is done: the fuse. -/
def dBurn (d : Dst) : Dst := { d with fuse := if d.fused then d.fuse - 1 else d.fuse }
set_option maxHeartbeats 1000000 in
theorem burn_any (h : Dk W p d) (hf : d.fused = true → 0 < d.fuse ∧ d.fuse ≤ 9223372036854775807) : Calls Try.prog 71 #[.pointer (some ⟨p, 0, none⟩)] W fun e w' => e = .returned (.tuple #[]) ∧ Dk w' p (dBurn d) ∧ Tp p W w' := by
  have c1 := h.c1
  have c2 := h.c2
  have z2 := h.thaw 258
  obtain ⟨l, of, fd, fu, wr⟩ := d
  cases fd
  · go_enter Try.func71, Try.ntmps71
    go_wp2
    go_end0
    exact ⟨rfl, h, Tp.of _ (Below.refl _ _)⟩
  · obtain ⟨hf1, hf2⟩ := hf rfl
    dsimp only at hf1 hf2 c1 c2
    have hw : IntKind.i64.wrap (fu - 1) = fu - 1 := i64_id _ (by omega) (by omega)
    go_enter Try.func71, Try.ntmps71
    go_wp2
    go_end0
    exact ⟨rfl, h.s2 (fu - 1), Tp.set _ _ _ _⟩
end
end Go.Proofs.Ytjleggnkacmbbaa
