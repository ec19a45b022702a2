/- earshotbook's kinds of which nothing is kept: what is looked at, marked, grown. -/
import Derived.Test.YtcdefcaoocnlbaaZkz
namespace Go.Proofs.Ytcdefcaoocnlbaa
open Go.RowKit Go.Shelf Go.Lib

section
variable {W : World} {bb : Nat}
set_option maxHeartbeats 1000000 in
theorem stillInts_e (h : W.cell? ⟨bb, 0, none⟩ = some (.slice none 0 0)) : Calls Try.prog 33 #[.pointer (some ⟨bb, 0, none⟩)] W fun e w' => e = .returned (.bool true) ∧ w' = W := by
  go_enter Try.func33, Try.ntmps33
  go_wp2
  go_loopw [3] (fun i wz => i = .int .i64 0 ∧ wz = W) (fun _ _ => 0)
  case atStart => exact ⟨rfl, rfl⟩
  case round =>
    obtain ⟨rfl, rfl⟩ := hrel
    go_wp2
    go_ret
    exact ⟨rfl, rfl⟩
set_option maxHeartbeats 1000000 in
theorem putInts_e (h : W.cell? ⟨bb, 0, none⟩ = some (.slice none 0 0)) : Calls Try.prog 45 #[.pointer (some ⟨bb, 0, none⟩)] W fun e w' => e = .returned (.tuple #[]) ∧ w' = W := by
  go_enter Try.func45, Try.ntmps45
  go_wp2
  go_loopw [2] (fun i wz => i = .int .i64 0 ∧ wz = W) (fun _ _ => 0)
  case atStart => exact ⟨rfl, rfl⟩
  case round =>
    obtain ⟨rfl, rfl⟩ := hrel
    go_wp2
    go_end0
    exact ⟨rfl, rfl⟩
set_option maxHeartbeats 1000000 in
theorem growInts_e (h : W.cell? ⟨bb, 0, none⟩ = some (.slice none 0 0)) : Calls Try.prog 57 #[.pointer (some ⟨bb, 0, none⟩)] W fun e w' => e = .returned (.slice none 0 0) ∧ w' = W := by
  go_enter Try.func57, Try.ntmps57
  go_wp2
  go_loopw [3, 4] (fun o i wz => o = .slice none 0 0 ∧ i = .int .i64 0 ∧ wz = W) (fun _ _ _ => 0)
  case atStart => exact ⟨rfl, rfl, rfl⟩
  case round =>
    obtain ⟨rfl, rfl, rfl⟩ := hrel
    go_wp2
    go_ret
    exact ⟨rfl, rfl⟩
set_option maxHeartbeats 1000000 in
theorem markedInts_e (W : World) : Calls Try.prog 69 #[.slice none 0 0] W fun e w' => e = .returned (.bool true) ∧ w' = W := by
  go_enter Try.func69, Try.ntmps69
  go_wp2
  go_loopw [3] (fun i wz => i = .int .i64 0 ∧ wz = W) (fun _ _ => 0)
  case atStart => exact ⟨rfl, rfl⟩
  case round =>
    obtain ⟨rfl, rfl⟩ := hrel
    go_wp2
    go_ret
    exact ⟨rfl, rfl⟩
set_option maxHeartbeats 1000000 in
theorem stillChars_e (h : W.cell? ⟨bb, 2, none⟩ = some (.slice none 0 0)) : Calls Try.prog 34 #[.pointer (some ⟨bb, 0, none⟩)] W fun e w' => e = .returned (.bool true) ∧ w' = W := by
  go_enter Try.func34, Try.ntmps34
  go_wp2
  go_loopw [3] (fun i wz => i = .int .i64 0 ∧ wz = W) (fun _ _ => 0)
  case atStart => exact ⟨rfl, rfl⟩
  case round =>
    obtain ⟨rfl, rfl⟩ := hrel
    go_wp2
    go_ret
    exact ⟨rfl, rfl⟩
set_option maxHeartbeats 1000000 in
theorem putChars_e (h : W.cell? ⟨bb, 2, none⟩ = some (.slice none 0 0)) : Calls Try.prog 46 #[.pointer (some ⟨bb, 0, none⟩)] W fun e w' => e = .returned (.tuple #[]) ∧ w' = W := by
  go_enter Try.func46, Try.ntmps46
  go_wp2
  go_loopw [2] (fun i wz => i = .int .i64 0 ∧ wz = W) (fun _ _ => 0)
  case atStart => exact ⟨rfl, rfl⟩
  case round =>
    obtain ⟨rfl, rfl⟩ := hrel
    go_wp2
    go_end0
    exact ⟨rfl, rfl⟩
set_option maxHeartbeats 1000000 in
theorem growChars_e (h : W.cell? ⟨bb, 2, none⟩ = some (.slice none 0 0)) : Calls Try.prog 58 #[.pointer (some ⟨bb, 0, none⟩)] W fun e w' => e = .returned (.slice none 0 0) ∧ w' = W := by
  go_enter Try.func58, Try.ntmps58
  go_wp2
  go_loopw [3, 4] (fun o i wz => o = .slice none 0 0 ∧ i = .int .i64 0 ∧ wz = W) (fun _ _ _ => 0)
  case atStart => exact ⟨rfl, rfl, rfl⟩
  case round =>
    obtain ⟨rfl, rfl, rfl⟩ := hrel
    go_wp2
    go_ret
    exact ⟨rfl, rfl⟩
set_option maxHeartbeats 1000000 in
theorem markedChars_e (W : World) : Calls Try.prog 70 #[.slice none 0 0] W fun e w' => e = .returned (.bool true) ∧ w' = W := by
  go_enter Try.func70, Try.ntmps70
  go_wp2
  go_loopw [3] (fun i wz => i = .int .i64 0 ∧ wz = W) (fun _ _ => 0)
  case atStart => exact ⟨rfl, rfl⟩
  case round =>
    obtain ⟨rfl, rfl⟩ := hrel
    go_wp2
    go_ret
    exact ⟨rfl, rfl⟩
set_option maxHeartbeats 1000000 in
theorem stillTokens_e (h : W.cell? ⟨bb, 4, none⟩ = some (.slice none 0 0)) : Calls Try.prog 35 #[.pointer (some ⟨bb, 0, none⟩)] W fun e w' => e = .returned (.bool true) ∧ w' = W := by
  go_enter Try.func35, Try.ntmps35
  go_wp2
  go_loopw [3] (fun i wz => i = .int .i64 0 ∧ wz = W) (fun _ _ => 0)
  case atStart => exact ⟨rfl, rfl⟩
  case round =>
    obtain ⟨rfl, rfl⟩ := hrel
    go_wp2
    go_ret
    exact ⟨rfl, rfl⟩
set_option maxHeartbeats 1000000 in
theorem putTokens_e (h : W.cell? ⟨bb, 4, none⟩ = some (.slice none 0 0)) : Calls Try.prog 47 #[.pointer (some ⟨bb, 0, none⟩)] W fun e w' => e = .returned (.tuple #[]) ∧ w' = W := by
  go_enter Try.func47, Try.ntmps47
  go_wp2
  go_loopw [2] (fun i wz => i = .int .i64 0 ∧ wz = W) (fun _ _ => 0)
  case atStart => exact ⟨rfl, rfl⟩
  case round =>
    obtain ⟨rfl, rfl⟩ := hrel
    go_wp2
    go_end0
    exact ⟨rfl, rfl⟩
set_option maxHeartbeats 1000000 in
theorem growTokens_e (h : W.cell? ⟨bb, 4, none⟩ = some (.slice none 0 0)) : Calls Try.prog 59 #[.pointer (some ⟨bb, 0, none⟩)] W fun e w' => e = .returned (.slice none 0 0) ∧ w' = W := by
  go_enter Try.func59, Try.ntmps59
  go_wp2
  go_loopw [3, 4] (fun o i wz => o = .slice none 0 0 ∧ i = .int .i64 0 ∧ wz = W) (fun _ _ _ => 0)
  case atStart => exact ⟨rfl, rfl, rfl⟩
  case round =>
    obtain ⟨rfl, rfl, rfl⟩ := hrel
    go_wp2
    go_ret
    exact ⟨rfl, rfl⟩
set_option maxHeartbeats 1000000 in
theorem markedTokens_e (W : World) : Calls Try.prog 71 #[.slice none 0 0] W fun e w' => e = .returned (.bool true) ∧ w' = W := by
  go_enter Try.func71, Try.ntmps71
  go_wp2
  go_loopw [3] (fun i wz => i = .int .i64 0 ∧ wz = W) (fun _ _ => 0)
  case atStart => exact ⟨rfl, rfl⟩
  case round =>
    obtain ⟨rfl, rfl⟩ := hrel
    go_wp2
    go_ret
    exact ⟨rfl, rfl⟩
set_option maxHeartbeats 1000000 in
theorem stillNotices_e (h : W.cell? ⟨bb, 6, none⟩ = some (.slice none 0 0)) : Calls Try.prog 36 #[.pointer (some ⟨bb, 0, none⟩)] W fun e w' => e = .returned (.bool true) ∧ w' = W := by
  go_enter Try.func36, Try.ntmps36
  go_wp2
  go_loopw [3] (fun i wz => i = .int .i64 0 ∧ wz = W) (fun _ _ => 0)
  case atStart => exact ⟨rfl, rfl⟩
  case round =>
    obtain ⟨rfl, rfl⟩ := hrel
    go_wp2
    go_ret
    exact ⟨rfl, rfl⟩
set_option maxHeartbeats 1000000 in
theorem putNotices_e (h : W.cell? ⟨bb, 6, none⟩ = some (.slice none 0 0)) : Calls Try.prog 48 #[.pointer (some ⟨bb, 0, none⟩)] W fun e w' => e = .returned (.tuple #[]) ∧ w' = W := by
  go_enter Try.func48, Try.ntmps48
  go_wp2
  go_loopw [2] (fun i wz => i = .int .i64 0 ∧ wz = W) (fun _ _ => 0)
  case atStart => exact ⟨rfl, rfl⟩
  case round =>
    obtain ⟨rfl, rfl⟩ := hrel
    go_wp2
    go_end0
    exact ⟨rfl, rfl⟩
set_option maxHeartbeats 1000000 in
theorem growNotices_e (h : W.cell? ⟨bb, 6, none⟩ = some (.slice none 0 0)) : Calls Try.prog 60 #[.pointer (some ⟨bb, 0, none⟩)] W fun e w' => e = .returned (.slice none 0 0) ∧ w' = W := by
  go_enter Try.func60, Try.ntmps60
  go_wp2
  go_loopw [3, 4] (fun o i wz => o = .slice none 0 0 ∧ i = .int .i64 0 ∧ wz = W) (fun _ _ _ => 0)
  case atStart => exact ⟨rfl, rfl, rfl⟩
  case round =>
    obtain ⟨rfl, rfl, rfl⟩ := hrel
    go_wp2
    go_ret
    exact ⟨rfl, rfl⟩
set_option maxHeartbeats 1000000 in
theorem markedNotices_e (W : World) : Calls Try.prog 72 #[.slice none 0 0] W fun e w' => e = .returned (.bool true) ∧ w' = W := by
  go_enter Try.func72, Try.ntmps72
  go_wp2
  go_loopw [3] (fun i wz => i = .int .i64 0 ∧ wz = W) (fun _ _ => 0)
  case atStart => exact ⟨rfl, rfl⟩
  case round =>
    obtain ⟨rfl, rfl⟩ := hrel
    go_wp2
    go_ret
    exact ⟨rfl, rfl⟩
set_option maxHeartbeats 1000000 in
theorem stillBytes_e (h : W.cell? ⟨bb, 8, none⟩ = some (.slice none 0 0)) : Calls Try.prog 37 #[.pointer (some ⟨bb, 0, none⟩)] W fun e w' => e = .returned (.bool true) ∧ w' = W := by
  go_enter Try.func37, Try.ntmps37
  go_wp2
  go_loopw [3] (fun i wz => i = .int .i64 0 ∧ wz = W) (fun _ _ => 0)
  case atStart => exact ⟨rfl, rfl⟩
  case round =>
    obtain ⟨rfl, rfl⟩ := hrel
    go_wp2
    go_ret
    exact ⟨rfl, rfl⟩
set_option maxHeartbeats 1000000 in
theorem putBytes_e (h : W.cell? ⟨bb, 8, none⟩ = some (.slice none 0 0)) : Calls Try.prog 49 #[.pointer (some ⟨bb, 0, none⟩)] W fun e w' => e = .returned (.tuple #[]) ∧ w' = W := by
  go_enter Try.func49, Try.ntmps49
  go_wp2
  go_loopw [2] (fun i wz => i = .int .i64 0 ∧ wz = W) (fun _ _ => 0)
  case atStart => exact ⟨rfl, rfl⟩
  case round =>
    obtain ⟨rfl, rfl⟩ := hrel
    go_wp2
    go_end0
    exact ⟨rfl, rfl⟩
set_option maxHeartbeats 1000000 in
theorem growBytes_e (h : W.cell? ⟨bb, 8, none⟩ = some (.slice none 0 0)) : Calls Try.prog 61 #[.pointer (some ⟨bb, 0, none⟩)] W fun e w' => e = .returned (.slice none 0 0) ∧ w' = W := by
  go_enter Try.func61, Try.ntmps61
  go_wp2
  go_loopw [3, 4] (fun o i wz => o = .slice none 0 0 ∧ i = .int .i64 0 ∧ wz = W) (fun _ _ _ => 0)
  case atStart => exact ⟨rfl, rfl, rfl⟩
  case round =>
    obtain ⟨rfl, rfl, rfl⟩ := hrel
    go_wp2
    go_ret
    exact ⟨rfl, rfl⟩
set_option maxHeartbeats 1000000 in
theorem markedBytes_e (W : World) : Calls Try.prog 73 #[.slice none 0 0] W fun e w' => e = .returned (.bool true) ∧ w' = W := by
  go_enter Try.func73, Try.ntmps73
  go_wp2
  go_loopw [3] (fun i wz => i = .int .i64 0 ∧ wz = W) (fun _ _ => 0)
  case atStart => exact ⟨rfl, rfl⟩
  case round =>
    obtain ⟨rfl, rfl⟩ := hrel
    go_wp2
    go_ret
    exact ⟨rfl, rfl⟩
set_option maxHeartbeats 1000000 in
theorem stillEvents_e (h : W.cell? ⟨bb, 12, none⟩ = some (.slice none 0 0)) : Calls Try.prog 39 #[.pointer (some ⟨bb, 0, none⟩)] W fun e w' => e = .returned (.bool true) ∧ w' = W := by
  go_enter Try.func39, Try.ntmps39
  go_wp2
  go_loopw [3] (fun i wz => i = .int .i64 0 ∧ wz = W) (fun _ _ => 0)
  case atStart => exact ⟨rfl, rfl⟩
  case round =>
    obtain ⟨rfl, rfl⟩ := hrel
    go_wp2
    go_ret
    exact ⟨rfl, rfl⟩
set_option maxHeartbeats 1000000 in
theorem putEvents_e (h : W.cell? ⟨bb, 12, none⟩ = some (.slice none 0 0)) : Calls Try.prog 51 #[.pointer (some ⟨bb, 0, none⟩)] W fun e w' => e = .returned (.tuple #[]) ∧ w' = W := by
  go_enter Try.func51, Try.ntmps51
  go_wp2
  go_loopw [2] (fun i wz => i = .int .i64 0 ∧ wz = W) (fun _ _ => 0)
  case atStart => exact ⟨rfl, rfl⟩
  case round =>
    obtain ⟨rfl, rfl⟩ := hrel
    go_wp2
    go_end0
    exact ⟨rfl, rfl⟩
set_option maxHeartbeats 1000000 in
theorem growEvents_e (h : W.cell? ⟨bb, 12, none⟩ = some (.slice none 0 0)) : Calls Try.prog 63 #[.pointer (some ⟨bb, 0, none⟩)] W fun e w' => e = .returned (.slice none 0 0) ∧ w' = W := by
  go_enter Try.func63, Try.ntmps63
  go_wp2
  go_loopw [3, 4] (fun o i wz => o = .slice none 0 0 ∧ i = .int .i64 0 ∧ wz = W) (fun _ _ _ => 0)
  case atStart => exact ⟨rfl, rfl, rfl⟩
  case round =>
    obtain ⟨rfl, rfl, rfl⟩ := hrel
    go_wp2
    go_ret
    exact ⟨rfl, rfl⟩
set_option maxHeartbeats 1000000 in
theorem markedEvents_e (W : World) : Calls Try.prog 75 #[.slice none 0 0] W fun e w' => e = .returned (.bool true) ∧ w' = W := by
  go_enter Try.func75, Try.ntmps75
  go_wp2
  go_loopw [3] (fun i wz => i = .int .i64 0 ∧ wz = W) (fun _ _ => 0)
  case atStart => exact ⟨rfl, rfl⟩
  case round =>
    obtain ⟨rfl, rfl⟩ := hrel
    go_wp2
    go_ret
    exact ⟨rfl, rfl⟩
set_option maxHeartbeats 1000000 in
theorem stillErrs_e (h : W.cell? ⟨bb, 14, none⟩ = some (.slice none 0 0)) : Calls Try.prog 40 #[.pointer (some ⟨bb, 0, none⟩)] W fun e w' => e = .returned (.bool true) ∧ w' = W := by
  go_enter Try.func40, Try.ntmps40
  go_wp2
  go_loopw [3] (fun i wz => i = .int .i64 0 ∧ wz = W) (fun _ _ => 0)
  case atStart => exact ⟨rfl, rfl⟩
  case round =>
    obtain ⟨rfl, rfl⟩ := hrel
    go_wp2
    go_ret
    exact ⟨rfl, rfl⟩
set_option maxHeartbeats 1000000 in
theorem putErrs_e (h : W.cell? ⟨bb, 14, none⟩ = some (.slice none 0 0)) : Calls Try.prog 52 #[.pointer (some ⟨bb, 0, none⟩)] W fun e w' => e = .returned (.tuple #[]) ∧ w' = W := by
  go_enter Try.func52, Try.ntmps52
  go_wp2
  go_loopw [2] (fun i wz => i = .int .i64 0 ∧ wz = W) (fun _ _ => 0)
  case atStart => exact ⟨rfl, rfl⟩
  case round =>
    obtain ⟨rfl, rfl⟩ := hrel
    go_wp2
    go_end0
    exact ⟨rfl, rfl⟩
set_option maxHeartbeats 1000000 in
theorem growErrs_e (h : W.cell? ⟨bb, 14, none⟩ = some (.slice none 0 0)) : Calls Try.prog 64 #[.pointer (some ⟨bb, 0, none⟩)] W fun e w' => e = .returned (.slice none 0 0) ∧ w' = W := by
  go_enter Try.func64, Try.ntmps64
  go_wp2
  go_loopw [3, 4] (fun o i wz => o = .slice none 0 0 ∧ i = .int .i64 0 ∧ wz = W) (fun _ _ _ => 0)
  case atStart => exact ⟨rfl, rfl, rfl⟩
  case round =>
    obtain ⟨rfl, rfl, rfl⟩ := hrel
    go_wp2
    go_ret
    exact ⟨rfl, rfl⟩
set_option maxHeartbeats 1000000 in
theorem markedErrs_e (W : World) : Calls Try.prog 76 #[.slice none 0 0] W fun e w' => e = .returned (.bool true) ∧ w' = W := by
  go_enter Try.func76, Try.ntmps76
  go_wp2
  go_loopw [3] (fun i wz => i = .int .i64 0 ∧ wz = W) (fun _ _ => 0)
  case atStart => exact ⟨rfl, rfl⟩
  case round =>
    obtain ⟨rfl, rfl⟩ := hrel
    go_wp2
    go_ret
    exact ⟨rfl, rfl⟩
set_option maxHeartbeats 1000000 in
theorem stillOuts_e (h : W.cell? ⟨bb, 16, none⟩ = some (.slice none 0 0)) : Calls Try.prog 41 #[.pointer (some ⟨bb, 0, none⟩)] W fun e w' => e = .returned (.bool true) ∧ w' = W := by
  go_enter Try.func41, Try.ntmps41
  go_wp2
  go_loopw [3] (fun i wz => i = .int .i64 0 ∧ wz = W) (fun _ _ => 0)
  case atStart => exact ⟨rfl, rfl⟩
  case round =>
    obtain ⟨rfl, rfl⟩ := hrel
    go_wp2
    go_ret
    exact ⟨rfl, rfl⟩
set_option maxHeartbeats 1000000 in
theorem putOuts_e (h : W.cell? ⟨bb, 16, none⟩ = some (.slice none 0 0)) : Calls Try.prog 53 #[.pointer (some ⟨bb, 0, none⟩)] W fun e w' => e = .returned (.tuple #[]) ∧ w' = W := by
  go_enter Try.func53, Try.ntmps53
  go_wp2
  go_loopw [2] (fun i wz => i = .int .i64 0 ∧ wz = W) (fun _ _ => 0)
  case atStart => exact ⟨rfl, rfl⟩
  case round =>
    obtain ⟨rfl, rfl⟩ := hrel
    go_wp2
    go_end0
    exact ⟨rfl, rfl⟩
set_option maxHeartbeats 1000000 in
theorem growOuts_e (h : W.cell? ⟨bb, 16, none⟩ = some (.slice none 0 0)) : Calls Try.prog 65 #[.pointer (some ⟨bb, 0, none⟩)] W fun e w' => e = .returned (.slice none 0 0) ∧ w' = W := by
  go_enter Try.func65, Try.ntmps65
  go_wp2
  go_loopw [3, 4] (fun o i wz => o = .slice none 0 0 ∧ i = .int .i64 0 ∧ wz = W) (fun _ _ _ => 0)
  case atStart => exact ⟨rfl, rfl, rfl⟩
  case round =>
    obtain ⟨rfl, rfl, rfl⟩ := hrel
    go_wp2
    go_ret
    exact ⟨rfl, rfl⟩
set_option maxHeartbeats 1000000 in
theorem markedOuts_e (W : World) : Calls Try.prog 77 #[.slice none 0 0] W fun e w' => e = .returned (.bool true) ∧ w' = W := by
  go_enter Try.func77, Try.ntmps77
  go_wp2
  go_loopw [3] (fun i wz => i = .int .i64 0 ∧ wz = W) (fun _ _ => 0)
  case atStart => exact ⟨rfl, rfl⟩
  case round =>
    obtain ⟨rfl, rfl⟩ := hrel
    go_wp2
    go_ret
    exact ⟨rfl, rfl⟩
set_option maxHeartbeats 1000000 in
theorem stillGrams_e (h : W.cell? ⟨bb, 18, none⟩ = some (.slice none 0 0)) : Calls Try.prog 42 #[.pointer (some ⟨bb, 0, none⟩)] W fun e w' => e = .returned (.bool true) ∧ w' = W := by
  go_enter Try.func42, Try.ntmps42
  go_wp2
  go_loopw [3] (fun i wz => i = .int .i64 0 ∧ wz = W) (fun _ _ => 0)
  case atStart => exact ⟨rfl, rfl⟩
  case round =>
    obtain ⟨rfl, rfl⟩ := hrel
    go_wp2
    go_ret
    exact ⟨rfl, rfl⟩
set_option maxHeartbeats 1000000 in
theorem putGrams_e (h : W.cell? ⟨bb, 18, none⟩ = some (.slice none 0 0)) : Calls Try.prog 54 #[.pointer (some ⟨bb, 0, none⟩)] W fun e w' => e = .returned (.tuple #[]) ∧ w' = W := by
  go_enter Try.func54, Try.ntmps54
  go_wp2
  go_loopw [2] (fun i wz => i = .int .i64 0 ∧ wz = W) (fun _ _ => 0)
  case atStart => exact ⟨rfl, rfl⟩
  case round =>
    obtain ⟨rfl, rfl⟩ := hrel
    go_wp2
    go_end0
    exact ⟨rfl, rfl⟩
set_option maxHeartbeats 1000000 in
theorem growGrams_e (h : W.cell? ⟨bb, 18, none⟩ = some (.slice none 0 0)) : Calls Try.prog 66 #[.pointer (some ⟨bb, 0, none⟩)] W fun e w' => e = .returned (.slice none 0 0) ∧ w' = W := by
  go_enter Try.func66, Try.ntmps66
  go_wp2
  go_loopw [3, 4] (fun o i wz => o = .slice none 0 0 ∧ i = .int .i64 0 ∧ wz = W) (fun _ _ _ => 0)
  case atStart => exact ⟨rfl, rfl, rfl⟩
  case round =>
    obtain ⟨rfl, rfl, rfl⟩ := hrel
    go_wp2
    go_ret
    exact ⟨rfl, rfl⟩
set_option maxHeartbeats 1000000 in
theorem markedGrams_e (W : World) : Calls Try.prog 78 #[.slice none 0 0] W fun e w' => e = .returned (.bool true) ∧ w' = W := by
  go_enter Try.func78, Try.ntmps78
  go_wp2
  go_loopw [3] (fun i wz => i = .int .i64 0 ∧ wz = W) (fun _ _ => 0)
  case atStart => exact ⟨rfl, rfl⟩
  case round =>
    obtain ⟨rfl, rfl⟩ := hrel
    go_wp2
    go_ret
    exact ⟨rfl, rfl⟩
set_option maxHeartbeats 1000000 in
theorem stillSteps_e (h : W.cell? ⟨bb, 20, none⟩ = some (.slice none 0 0)) : Calls Try.prog 43 #[.pointer (some ⟨bb, 0, none⟩)] W fun e w' => e = .returned (.bool true) ∧ w' = W := by
  go_enter Try.func43, Try.ntmps43
  go_wp2
  go_loopw [3] (fun i wz => i = .int .i64 0 ∧ wz = W) (fun _ _ => 0)
  case atStart => exact ⟨rfl, rfl⟩
  case round =>
    obtain ⟨rfl, rfl⟩ := hrel
    go_wp2
    go_ret
    exact ⟨rfl, rfl⟩
set_option maxHeartbeats 1000000 in
theorem putSteps_e (h : W.cell? ⟨bb, 20, none⟩ = some (.slice none 0 0)) : Calls Try.prog 55 #[.pointer (some ⟨bb, 0, none⟩)] W fun e w' => e = .returned (.tuple #[]) ∧ w' = W := by
  go_enter Try.func55, Try.ntmps55
  go_wp2
  go_loopw [2] (fun i wz => i = .int .i64 0 ∧ wz = W) (fun _ _ => 0)
  case atStart => exact ⟨rfl, rfl⟩
  case round =>
    obtain ⟨rfl, rfl⟩ := hrel
    go_wp2
    go_end0
    exact ⟨rfl, rfl⟩
set_option maxHeartbeats 1000000 in
theorem growSteps_e (h : W.cell? ⟨bb, 20, none⟩ = some (.slice none 0 0)) : Calls Try.prog 67 #[.pointer (some ⟨bb, 0, none⟩)] W fun e w' => e = .returned (.slice none 0 0) ∧ w' = W := by
  go_enter Try.func67, Try.ntmps67
  go_wp2
  go_loopw [3, 4] (fun o i wz => o = .slice none 0 0 ∧ i = .int .i64 0 ∧ wz = W) (fun _ _ _ => 0)
  case atStart => exact ⟨rfl, rfl, rfl⟩
  case round =>
    obtain ⟨rfl, rfl, rfl⟩ := hrel
    go_wp2
    go_ret
    exact ⟨rfl, rfl⟩
set_option maxHeartbeats 1000000 in
theorem markedSteps_e (W : World) : Calls Try.prog 79 #[.slice none 0 0] W fun e w' => e = .returned (.bool true) ∧ w' = W := by
  go_enter Try.func79, Try.ntmps79
  go_wp2
  go_loopw [3] (fun i wz => i = .int .i64 0 ∧ wz = W) (fun _ _ => 0)
  case atStart => exact ⟨rfl, rfl⟩
  case round =>
    obtain ⟨rfl, rfl⟩ := hrel
    go_wp2
    go_ret
    exact ⟨rfl, rfl⟩
set_option maxHeartbeats 1000000 in
theorem stillRows_e (h : W.cell? ⟨bb, 22, none⟩ = some (.slice none 0 0)) : Calls Try.prog 44 #[.pointer (some ⟨bb, 0, none⟩)] W fun e w' => e = .returned (.bool true) ∧ w' = W := by
  go_enter Try.func44, Try.ntmps44
  go_wp2
  go_loopw [3] (fun i wz => i = .int .i64 0 ∧ wz = W) (fun _ _ => 0)
  case atStart => exact ⟨rfl, rfl⟩
  case round =>
    obtain ⟨rfl, rfl⟩ := hrel
    go_wp2
    go_ret
    exact ⟨rfl, rfl⟩
set_option maxHeartbeats 1000000 in
theorem putRows_e (h : W.cell? ⟨bb, 22, none⟩ = some (.slice none 0 0)) : Calls Try.prog 56 #[.pointer (some ⟨bb, 0, none⟩)] W fun e w' => e = .returned (.tuple #[]) ∧ w' = W := by
  go_enter Try.func56, Try.ntmps56
  go_wp2
  go_loopw [2] (fun i wz => i = .int .i64 0 ∧ wz = W) (fun _ _ => 0)
  case atStart => exact ⟨rfl, rfl⟩
  case round =>
    obtain ⟨rfl, rfl⟩ := hrel
    go_wp2
    go_end0
    exact ⟨rfl, rfl⟩
set_option maxHeartbeats 1000000 in
theorem growRows_e (h : W.cell? ⟨bb, 22, none⟩ = some (.slice none 0 0)) : Calls Try.prog 68 #[.pointer (some ⟨bb, 0, none⟩)] W fun e w' => e = .returned (.slice none 0 0) ∧ w' = W := by
  go_enter Try.func68, Try.ntmps68
  go_wp2
  go_loopw [3, 4] (fun o i wz => o = .slice none 0 0 ∧ i = .int .i64 0 ∧ wz = W) (fun _ _ _ => 0)
  case atStart => exact ⟨rfl, rfl, rfl⟩
  case round =>
    obtain ⟨rfl, rfl, rfl⟩ := hrel
    go_wp2
    go_ret
    exact ⟨rfl, rfl⟩
set_option maxHeartbeats 1000000 in
theorem markedRows_e (W : World) : Calls Try.prog 80 #[.slice none 0 0] W fun e w' => e = .returned (.bool true) ∧ w' = W := by
  go_enter Try.func80, Try.ntmps80
  go_wp2
  go_loopw [3] (fun i wz => i = .int .i64 0 ∧ wz = W) (fun _ _ => 0)
  case atStart => exact ⟨rfl, rfl⟩
  case round =>
    obtain ⟨rfl, rfl⟩ := hrel
    go_wp2
    go_ret
    exact ⟨rfl, rfl⟩
end
end Go.Proofs.Ytcdefcaoocnlbaa
