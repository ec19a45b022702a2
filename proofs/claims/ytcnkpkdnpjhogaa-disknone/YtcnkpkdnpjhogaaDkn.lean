/- A nil disk: what it answers. -/
import Derived.Test.YtcnkpkdnpjhogaaDkb
import Derived.Test.YtcnkpkdnpjhogaaDke
namespace Go.Proofs.Ytcnkpkdnpjhogaa
open Go.RowKit Go.Shelf
section
variable (W : World)
set_option maxHeartbeats 1000000 in
theorem non_any : Calls Try.prog 13 #[.pointer none] W fun e w' => e = .returned (.bool false) ∧ w' = W := by
  go_enter Try.func13, Try.ntmps13
  go_wp2
  go_ret
  exact ⟨rfl, rfl⟩
set_option maxHeartbeats 1000000 in
theorem nleft_any : Calls Try.prog 14 #[.pointer none] W fun e w' => e = .returned (.int .i64 (-1)) ∧ w' = W := by
  go_enter Try.func14, Try.ntmps14
  go_wp2
  go_ret
  exact ⟨rfl, rfl⟩
set_option maxHeartbeats 1000000 in
theorem nwrites_any : Calls Try.prog 12 #[.pointer none] W fun e w' => e = .returned (.int .i64 0) ∧ w' = W := by
  go_enter Try.func12, Try.ntmps12
  go_wp2
  go_ret
  exact ⟨rfl, rfl⟩
set_option maxHeartbeats 1000000 in
theorem ncut_any : Calls Try.prog 18 #[.pointer none] W fun e w' => e = .returned (.tuple #[]) ∧ w' = W := by
  go_enter Try.func18, Try.ntmps18
  go_wp2
  go_end0
  exact ⟨rfl, rfl⟩
set_option maxHeartbeats 1000000 in
theorem nrestore_any : Calls Try.prog 15 #[.pointer none] W fun e w' => e = .returned (.tuple #[]) ∧ w' = W := by
  go_enter Try.func15, Try.ntmps15
  go_wp2
  go_end0
  exact ⟨rfl, rfl⟩
set_option maxHeartbeats 1000000 in
theorem nfuse_any (k : Int) : Calls Try.prog 9 #[.pointer none, .int .i64 k] W fun e w' => e = .returned (.tuple #[]) ∧ w' = W := by
  go_enter Try.func9, Try.ntmps9
  go_wp2
  go_end0
  exact ⟨rfl, rfl⟩
set_option maxHeartbeats 1000000 in
theorem nwrite_any (s : Int) (v : Value) : Calls Try.prog 10 #[.pointer none, .int .i64 s, v] W fun e w' => e = .returned (.int .i64 100) ∧ w' = W := by
  have ho := non_any W
  go_enter Try.func10, Try.ntmps10
  go_wp2_with (go_at_call 13; (with_reducible refine ho.mono ?_); rintro e u1 ⟨rfl, rfl⟩)
  go_ret
  exact ⟨rfl, rfl⟩
set_option maxHeartbeats 1000000 in
theorem nread_any (s : Int) : Calls Try.prog 21 #[.pointer none, .int .i64 s] W fun e w' => e = .returned (.tuple #[.slice none 0 0, .int .i64 100]) ∧ w' = W := by
  have ho := non_any W
  go_enter Try.func21, Try.ntmps21
  go_wp2_with (go_at_call 13; (with_reducible refine ho.mono ?_); rintro e u1 ⟨rfl, rfl⟩)
  go_ret2
  exact ⟨rfl, rfl⟩
set_option maxHeartbeats 1000000 in
theorem nimage_any : Calls Try.prog 16 #[.pointer none] W fun e w' => e = .returned (.slice none 0 0) ∧ w' = W := by
  go_enter Try.func16, Try.ntmps16
  go_wp2
  go_ret
  exact ⟨rfl, rfl⟩
set_option maxHeartbeats 1000000 in
theorem ntwin_any : Calls Try.prog 19 #[.pointer none] W fun e w' => e = .returned (.pointer none) ∧ w' = W := by
  go_enter Try.func19, Try.ntmps19
  go_wp2
  go_ret
  exact ⟨rfl, rfl⟩
end
end Go.Proofs.Ytcnkpkdnpjhogaa
