/- earshotbook's Apart: of the kinds Ints, Notices. -/
import Derived.Test.YtgnhainfcfcodaaGreatKpInts
import Derived.Test.YtgnhainfcfcodaaGreatKpNotices
namespace Go.Proofs.YtgnhainfcfcodaaGreat.Kel
open Go.RowKit Go.Shelf Go.Lib

section
variable {W : World} {bb : Nat}
set_option maxHeartbeats 1000000 in
theorem stillChars_e (h : W.cell? ⟨bb, 2, none⟩ = some (.slice none 0 0)) : Calls Tryz.prog 24 #[.pointer (some ⟨bb, 0, none⟩)] W fun e w' => e = .returned (.bool true) ∧ w' = W := by
  go_enter Tryz.func24, Tryz.ntmps24
  go_wp2
  go_loopw [3] (fun i wz => i = .int .i64 0 ∧ wz = W) (fun _ _ => 0)
  case atStart => exact ⟨rfl, rfl⟩
  case round =>
    obtain ⟨rfl, rfl⟩ := hrel
    go_wp2
    go_ret
    exact ⟨rfl, rfl⟩
set_option maxHeartbeats 1000000 in
theorem putChars_e (h : W.cell? ⟨bb, 2, none⟩ = some (.slice none 0 0)) : Calls Tryz.prog 36 #[.pointer (some ⟨bb, 0, none⟩)] W fun e w' => e = .returned (.tuple #[]) ∧ w' = W := by
  go_enter Tryz.func36, Tryz.ntmps36
  go_wp2
  go_loopw [2] (fun i wz => i = .int .i64 0 ∧ wz = W) (fun _ _ => 0)
  case atStart => exact ⟨rfl, rfl⟩
  case round =>
    obtain ⟨rfl, rfl⟩ := hrel
    go_wp2
    go_end0
    exact ⟨rfl, rfl⟩
set_option maxHeartbeats 1000000 in
theorem growChars_e (h : W.cell? ⟨bb, 2, none⟩ = some (.slice none 0 0)) : Calls Tryz.prog 48 #[.pointer (some ⟨bb, 0, none⟩)] W fun e w' => e = .returned (.slice none 0 0) ∧ w' = W := by
  go_enter Tryz.func48, Tryz.ntmps48
  go_wp2
  go_loopw [3, 4] (fun o i wz => o = .slice none 0 0 ∧ i = .int .i64 0 ∧ wz = W) (fun _ _ _ => 0)
  case atStart => exact ⟨rfl, rfl, rfl⟩
  case round =>
    obtain ⟨rfl, rfl, rfl⟩ := hrel
    go_wp2
    go_ret
    exact ⟨rfl, rfl⟩
set_option maxHeartbeats 1000000 in
theorem markedChars_e (W : World) : Calls Tryz.prog 60 #[.slice none 0 0] W fun e w' => e = .returned (.bool true) ∧ w' = W := by
  go_enter Tryz.func60, Tryz.ntmps60
  go_wp2
  go_loopw [3] (fun i wz => i = .int .i64 0 ∧ wz = W) (fun _ _ => 0)
  case atStart => exact ⟨rfl, rfl⟩
  case round =>
    obtain ⟨rfl, rfl⟩ := hrel
    go_wp2
    go_ret
    exact ⟨rfl, rfl⟩
set_option maxHeartbeats 1000000 in
theorem stillTokens_e (h : W.cell? ⟨bb, 4, none⟩ = some (.slice none 0 0)) : Calls Tryz.prog 25 #[.pointer (some ⟨bb, 0, none⟩)] W fun e w' => e = .returned (.bool true) ∧ w' = W := by
  go_enter Tryz.func25, Tryz.ntmps25
  go_wp2
  go_loopw [3] (fun i wz => i = .int .i64 0 ∧ wz = W) (fun _ _ => 0)
  case atStart => exact ⟨rfl, rfl⟩
  case round =>
    obtain ⟨rfl, rfl⟩ := hrel
    go_wp2
    go_ret
    exact ⟨rfl, rfl⟩
set_option maxHeartbeats 1000000 in
theorem putTokens_e (h : W.cell? ⟨bb, 4, none⟩ = some (.slice none 0 0)) : Calls Tryz.prog 37 #[.pointer (some ⟨bb, 0, none⟩)] W fun e w' => e = .returned (.tuple #[]) ∧ w' = W := by
  go_enter Tryz.func37, Tryz.ntmps37
  go_wp2
  go_loopw [2] (fun i wz => i = .int .i64 0 ∧ wz = W) (fun _ _ => 0)
  case atStart => exact ⟨rfl, rfl⟩
  case round =>
    obtain ⟨rfl, rfl⟩ := hrel
    go_wp2
    go_end0
    exact ⟨rfl, rfl⟩
set_option maxHeartbeats 1000000 in
theorem growTokens_e (h : W.cell? ⟨bb, 4, none⟩ = some (.slice none 0 0)) : Calls Tryz.prog 49 #[.pointer (some ⟨bb, 0, none⟩)] W fun e w' => e = .returned (.slice none 0 0) ∧ w' = W := by
  go_enter Tryz.func49, Tryz.ntmps49
  go_wp2
  go_loopw [3, 4] (fun o i wz => o = .slice none 0 0 ∧ i = .int .i64 0 ∧ wz = W) (fun _ _ _ => 0)
  case atStart => exact ⟨rfl, rfl, rfl⟩
  case round =>
    obtain ⟨rfl, rfl, rfl⟩ := hrel
    go_wp2
    go_ret
    exact ⟨rfl, rfl⟩
set_option maxHeartbeats 1000000 in
theorem markedTokens_e (W : World) : Calls Tryz.prog 61 #[.slice none 0 0] W fun e w' => e = .returned (.bool true) ∧ w' = W := by
  go_enter Tryz.func61, Tryz.ntmps61
  go_wp2
  go_loopw [3] (fun i wz => i = .int .i64 0 ∧ wz = W) (fun _ _ => 0)
  case atStart => exact ⟨rfl, rfl⟩
  case round =>
    obtain ⟨rfl, rfl⟩ := hrel
    go_wp2
    go_ret
    exact ⟨rfl, rfl⟩
set_option maxHeartbeats 1000000 in
theorem stillBytes_e (h : W.cell? ⟨bb, 8, none⟩ = some (.slice none 0 0)) : Calls Tryz.prog 27 #[.pointer (some ⟨bb, 0, none⟩)] W fun e w' => e = .returned (.bool true) ∧ w' = W := by
  go_enter Tryz.func27, Tryz.ntmps27
  go_wp2
  go_loopw [3] (fun i wz => i = .int .i64 0 ∧ wz = W) (fun _ _ => 0)
  case atStart => exact ⟨rfl, rfl⟩
  case round =>
    obtain ⟨rfl, rfl⟩ := hrel
    go_wp2
    go_ret
    exact ⟨rfl, rfl⟩
set_option maxHeartbeats 1000000 in
theorem putBytes_e (h : W.cell? ⟨bb, 8, none⟩ = some (.slice none 0 0)) : Calls Tryz.prog 39 #[.pointer (some ⟨bb, 0, none⟩)] W fun e w' => e = .returned (.tuple #[]) ∧ w' = W := by
  go_enter Tryz.func39, Tryz.ntmps39
  go_wp2
  go_loopw [2] (fun i wz => i = .int .i64 0 ∧ wz = W) (fun _ _ => 0)
  case atStart => exact ⟨rfl, rfl⟩
  case round =>
    obtain ⟨rfl, rfl⟩ := hrel
    go_wp2
    go_end0
    exact ⟨rfl, rfl⟩
set_option maxHeartbeats 1000000 in
theorem growBytes_e (h : W.cell? ⟨bb, 8, none⟩ = some (.slice none 0 0)) : Calls Tryz.prog 51 #[.pointer (some ⟨bb, 0, none⟩)] W fun e w' => e = .returned (.slice none 0 0) ∧ w' = W := by
  go_enter Tryz.func51, Tryz.ntmps51
  go_wp2
  go_loopw [3, 4] (fun o i wz => o = .slice none 0 0 ∧ i = .int .i64 0 ∧ wz = W) (fun _ _ _ => 0)
  case atStart => exact ⟨rfl, rfl, rfl⟩
  case round =>
    obtain ⟨rfl, rfl, rfl⟩ := hrel
    go_wp2
    go_ret
    exact ⟨rfl, rfl⟩
set_option maxHeartbeats 1000000 in
theorem markedBytes_e (W : World) : Calls Tryz.prog 63 #[.slice none 0 0] W fun e w' => e = .returned (.bool true) ∧ w' = W := by
  go_enter Tryz.func63, Tryz.ntmps63
  go_wp2
  go_loopw [3] (fun i wz => i = .int .i64 0 ∧ wz = W) (fun _ _ => 0)
  case atStart => exact ⟨rfl, rfl⟩
  case round =>
    obtain ⟨rfl, rfl⟩ := hrel
    go_wp2
    go_ret
    exact ⟨rfl, rfl⟩
set_option maxHeartbeats 1000000 in
theorem stillSets_e (h : W.cell? ⟨bb, 10, none⟩ = some (.slice none 0 0)) : Calls Tryz.prog 28 #[.pointer (some ⟨bb, 0, none⟩)] W fun e w' => e = .returned (.bool true) ∧ w' = W := by
  go_enter Tryz.func28, Tryz.ntmps28
  go_wp2
  go_loopw [3] (fun i wz => i = .int .i64 0 ∧ wz = W) (fun _ _ => 0)
  case atStart => exact ⟨rfl, rfl⟩
  case round =>
    obtain ⟨rfl, rfl⟩ := hrel
    go_wp2
    go_ret
    exact ⟨rfl, rfl⟩
set_option maxHeartbeats 1000000 in
theorem putSets_e (h : W.cell? ⟨bb, 10, none⟩ = some (.slice none 0 0)) : Calls Tryz.prog 40 #[.pointer (some ⟨bb, 0, none⟩)] W fun e w' => e = .returned (.tuple #[]) ∧ w' = W := by
  go_enter Tryz.func40, Tryz.ntmps40
  go_wp2
  go_loopw [2] (fun i wz => i = .int .i64 0 ∧ wz = W) (fun _ _ => 0)
  case atStart => exact ⟨rfl, rfl⟩
  case round =>
    obtain ⟨rfl, rfl⟩ := hrel
    go_wp2
    go_end0
    exact ⟨rfl, rfl⟩
set_option maxHeartbeats 1000000 in
theorem growSets_e (h : W.cell? ⟨bb, 10, none⟩ = some (.slice none 0 0)) : Calls Tryz.prog 52 #[.pointer (some ⟨bb, 0, none⟩)] W fun e w' => e = .returned (.slice none 0 0) ∧ w' = W := by
  go_enter Tryz.func52, Tryz.ntmps52
  go_wp2
  go_loopw [3, 4] (fun o i wz => o = .slice none 0 0 ∧ i = .int .i64 0 ∧ wz = W) (fun _ _ _ => 0)
  case atStart => exact ⟨rfl, rfl, rfl⟩
  case round =>
    obtain ⟨rfl, rfl, rfl⟩ := hrel
    go_wp2
    go_ret
    exact ⟨rfl, rfl⟩
set_option maxHeartbeats 1000000 in
theorem markedSets_e (W : World) : Calls Tryz.prog 64 #[.slice none 0 0] W fun e w' => e = .returned (.bool true) ∧ w' = W := by
  go_enter Tryz.func64, Tryz.ntmps64
  go_wp2
  go_loopw [3] (fun i wz => i = .int .i64 0 ∧ wz = W) (fun _ _ => 0)
  case atStart => exact ⟨rfl, rfl⟩
  case round =>
    obtain ⟨rfl, rfl⟩ := hrel
    go_wp2
    go_ret
    exact ⟨rfl, rfl⟩
set_option maxHeartbeats 1000000 in
theorem stillEvents_e (h : W.cell? ⟨bb, 12, none⟩ = some (.slice none 0 0)) : Calls Tryz.prog 29 #[.pointer (some ⟨bb, 0, none⟩)] W fun e w' => e = .returned (.bool true) ∧ w' = W := by
  go_enter Tryz.func29, Tryz.ntmps29
  go_wp2
  go_loopw [3] (fun i wz => i = .int .i64 0 ∧ wz = W) (fun _ _ => 0)
  case atStart => exact ⟨rfl, rfl⟩
  case round =>
    obtain ⟨rfl, rfl⟩ := hrel
    go_wp2
    go_ret
    exact ⟨rfl, rfl⟩
set_option maxHeartbeats 1000000 in
theorem putEvents_e (h : W.cell? ⟨bb, 12, none⟩ = some (.slice none 0 0)) : Calls Tryz.prog 41 #[.pointer (some ⟨bb, 0, none⟩)] W fun e w' => e = .returned (.tuple #[]) ∧ w' = W := by
  go_enter Tryz.func41, Tryz.ntmps41
  go_wp2
  go_loopw [2] (fun i wz => i = .int .i64 0 ∧ wz = W) (fun _ _ => 0)
  case atStart => exact ⟨rfl, rfl⟩
  case round =>
    obtain ⟨rfl, rfl⟩ := hrel
    go_wp2
    go_end0
    exact ⟨rfl, rfl⟩
set_option maxHeartbeats 1000000 in
theorem growEvents_e (h : W.cell? ⟨bb, 12, none⟩ = some (.slice none 0 0)) : Calls Tryz.prog 53 #[.pointer (some ⟨bb, 0, none⟩)] W fun e w' => e = .returned (.slice none 0 0) ∧ w' = W := by
  go_enter Tryz.func53, Tryz.ntmps53
  go_wp2
  go_loopw [3, 4] (fun o i wz => o = .slice none 0 0 ∧ i = .int .i64 0 ∧ wz = W) (fun _ _ _ => 0)
  case atStart => exact ⟨rfl, rfl, rfl⟩
  case round =>
    obtain ⟨rfl, rfl, rfl⟩ := hrel
    go_wp2
    go_ret
    exact ⟨rfl, rfl⟩
set_option maxHeartbeats 1000000 in
theorem markedEvents_e (W : World) : Calls Tryz.prog 65 #[.slice none 0 0] W fun e w' => e = .returned (.bool true) ∧ w' = W := by
  go_enter Tryz.func65, Tryz.ntmps65
  go_wp2
  go_loopw [3] (fun i wz => i = .int .i64 0 ∧ wz = W) (fun _ _ => 0)
  case atStart => exact ⟨rfl, rfl⟩
  case round =>
    obtain ⟨rfl, rfl⟩ := hrel
    go_wp2
    go_ret
    exact ⟨rfl, rfl⟩
set_option maxHeartbeats 1000000 in
theorem stillErrs_e (h : W.cell? ⟨bb, 14, none⟩ = some (.slice none 0 0)) : Calls Tryz.prog 30 #[.pointer (some ⟨bb, 0, none⟩)] W fun e w' => e = .returned (.bool true) ∧ w' = W := by
  go_enter Tryz.func30, Tryz.ntmps30
  go_wp2
  go_loopw [3] (fun i wz => i = .int .i64 0 ∧ wz = W) (fun _ _ => 0)
  case atStart => exact ⟨rfl, rfl⟩
  case round =>
    obtain ⟨rfl, rfl⟩ := hrel
    go_wp2
    go_ret
    exact ⟨rfl, rfl⟩
set_option maxHeartbeats 1000000 in
theorem putErrs_e (h : W.cell? ⟨bb, 14, none⟩ = some (.slice none 0 0)) : Calls Tryz.prog 42 #[.pointer (some ⟨bb, 0, none⟩)] W fun e w' => e = .returned (.tuple #[]) ∧ w' = W := by
  go_enter Tryz.func42, Tryz.ntmps42
  go_wp2
  go_loopw [2] (fun i wz => i = .int .i64 0 ∧ wz = W) (fun _ _ => 0)
  case atStart => exact ⟨rfl, rfl⟩
  case round =>
    obtain ⟨rfl, rfl⟩ := hrel
    go_wp2
    go_end0
    exact ⟨rfl, rfl⟩
set_option maxHeartbeats 1000000 in
theorem growErrs_e (h : W.cell? ⟨bb, 14, none⟩ = some (.slice none 0 0)) : Calls Tryz.prog 54 #[.pointer (some ⟨bb, 0, none⟩)] W fun e w' => e = .returned (.slice none 0 0) ∧ w' = W := by
  go_enter Tryz.func54, Tryz.ntmps54
  go_wp2
  go_loopw [3, 4] (fun o i wz => o = .slice none 0 0 ∧ i = .int .i64 0 ∧ wz = W) (fun _ _ _ => 0)
  case atStart => exact ⟨rfl, rfl, rfl⟩
  case round =>
    obtain ⟨rfl, rfl, rfl⟩ := hrel
    go_wp2
    go_ret
    exact ⟨rfl, rfl⟩
set_option maxHeartbeats 1000000 in
theorem markedErrs_e (W : World) : Calls Tryz.prog 66 #[.slice none 0 0] W fun e w' => e = .returned (.bool true) ∧ w' = W := by
  go_enter Tryz.func66, Tryz.ntmps66
  go_wp2
  go_loopw [3] (fun i wz => i = .int .i64 0 ∧ wz = W) (fun _ _ => 0)
  case atStart => exact ⟨rfl, rfl⟩
  case round =>
    obtain ⟨rfl, rfl⟩ := hrel
    go_wp2
    go_ret
    exact ⟨rfl, rfl⟩
set_option maxHeartbeats 1000000 in
theorem stillOuts_e (h : W.cell? ⟨bb, 16, none⟩ = some (.slice none 0 0)) : Calls Tryz.prog 31 #[.pointer (some ⟨bb, 0, none⟩)] W fun e w' => e = .returned (.bool true) ∧ w' = W := by
  go_enter Tryz.func31, Tryz.ntmps31
  go_wp2
  go_loopw [3] (fun i wz => i = .int .i64 0 ∧ wz = W) (fun _ _ => 0)
  case atStart => exact ⟨rfl, rfl⟩
  case round =>
    obtain ⟨rfl, rfl⟩ := hrel
    go_wp2
    go_ret
    exact ⟨rfl, rfl⟩
set_option maxHeartbeats 1000000 in
theorem putOuts_e (h : W.cell? ⟨bb, 16, none⟩ = some (.slice none 0 0)) : Calls Tryz.prog 43 #[.pointer (some ⟨bb, 0, none⟩)] W fun e w' => e = .returned (.tuple #[]) ∧ w' = W := by
  go_enter Tryz.func43, Tryz.ntmps43
  go_wp2
  go_loopw [2] (fun i wz => i = .int .i64 0 ∧ wz = W) (fun _ _ => 0)
  case atStart => exact ⟨rfl, rfl⟩
  case round =>
    obtain ⟨rfl, rfl⟩ := hrel
    go_wp2
    go_end0
    exact ⟨rfl, rfl⟩
set_option maxHeartbeats 1000000 in
theorem growOuts_e (h : W.cell? ⟨bb, 16, none⟩ = some (.slice none 0 0)) : Calls Tryz.prog 55 #[.pointer (some ⟨bb, 0, none⟩)] W fun e w' => e = .returned (.slice none 0 0) ∧ w' = W := by
  go_enter Tryz.func55, Tryz.ntmps55
  go_wp2
  go_loopw [3, 4] (fun o i wz => o = .slice none 0 0 ∧ i = .int .i64 0 ∧ wz = W) (fun _ _ _ => 0)
  case atStart => exact ⟨rfl, rfl, rfl⟩
  case round =>
    obtain ⟨rfl, rfl, rfl⟩ := hrel
    go_wp2
    go_ret
    exact ⟨rfl, rfl⟩
set_option maxHeartbeats 1000000 in
theorem markedOuts_e (W : World) : Calls Tryz.prog 67 #[.slice none 0 0] W fun e w' => e = .returned (.bool true) ∧ w' = W := by
  go_enter Tryz.func67, Tryz.ntmps67
  go_wp2
  go_loopw [3] (fun i wz => i = .int .i64 0 ∧ wz = W) (fun _ _ => 0)
  case atStart => exact ⟨rfl, rfl⟩
  case round =>
    obtain ⟨rfl, rfl⟩ := hrel
    go_wp2
    go_ret
    exact ⟨rfl, rfl⟩
set_option maxHeartbeats 1000000 in
theorem stillGrams_e (h : W.cell? ⟨bb, 18, none⟩ = some (.slice none 0 0)) : Calls Tryz.prog 32 #[.pointer (some ⟨bb, 0, none⟩)] W fun e w' => e = .returned (.bool true) ∧ w' = W := by
  go_enter Tryz.func32, Tryz.ntmps32
  go_wp2
  go_loopw [3] (fun i wz => i = .int .i64 0 ∧ wz = W) (fun _ _ => 0)
  case atStart => exact ⟨rfl, rfl⟩
  case round =>
    obtain ⟨rfl, rfl⟩ := hrel
    go_wp2
    go_ret
    exact ⟨rfl, rfl⟩
set_option maxHeartbeats 1000000 in
theorem putGrams_e (h : W.cell? ⟨bb, 18, none⟩ = some (.slice none 0 0)) : Calls Tryz.prog 44 #[.pointer (some ⟨bb, 0, none⟩)] W fun e w' => e = .returned (.tuple #[]) ∧ w' = W := by
  go_enter Tryz.func44, Tryz.ntmps44
  go_wp2
  go_loopw [2] (fun i wz => i = .int .i64 0 ∧ wz = W) (fun _ _ => 0)
  case atStart => exact ⟨rfl, rfl⟩
  case round =>
    obtain ⟨rfl, rfl⟩ := hrel
    go_wp2
    go_end0
    exact ⟨rfl, rfl⟩
set_option maxHeartbeats 1000000 in
theorem growGrams_e (h : W.cell? ⟨bb, 18, none⟩ = some (.slice none 0 0)) : Calls Tryz.prog 56 #[.pointer (some ⟨bb, 0, none⟩)] W fun e w' => e = .returned (.slice none 0 0) ∧ w' = W := by
  go_enter Tryz.func56, Tryz.ntmps56
  go_wp2
  go_loopw [3, 4] (fun o i wz => o = .slice none 0 0 ∧ i = .int .i64 0 ∧ wz = W) (fun _ _ _ => 0)
  case atStart => exact ⟨rfl, rfl, rfl⟩
  case round =>
    obtain ⟨rfl, rfl, rfl⟩ := hrel
    go_wp2
    go_ret
    exact ⟨rfl, rfl⟩
set_option maxHeartbeats 1000000 in
theorem markedGrams_e (W : World) : Calls Tryz.prog 68 #[.slice none 0 0] W fun e w' => e = .returned (.bool true) ∧ w' = W := by
  go_enter Tryz.func68, Tryz.ntmps68
  go_wp2
  go_loopw [3] (fun i wz => i = .int .i64 0 ∧ wz = W) (fun _ _ => 0)
  case atStart => exact ⟨rfl, rfl⟩
  case round =>
    obtain ⟨rfl, rfl⟩ := hrel
    go_wp2
    go_ret
    exact ⟨rfl, rfl⟩
set_option maxHeartbeats 1000000 in
theorem stillSteps_e (h : W.cell? ⟨bb, 20, none⟩ = some (.slice none 0 0)) : Calls Tryz.prog 33 #[.pointer (some ⟨bb, 0, none⟩)] W fun e w' => e = .returned (.bool true) ∧ w' = W := by
  go_enter Tryz.func33, Tryz.ntmps33
  go_wp2
  go_loopw [3] (fun i wz => i = .int .i64 0 ∧ wz = W) (fun _ _ => 0)
  case atStart => exact ⟨rfl, rfl⟩
  case round =>
    obtain ⟨rfl, rfl⟩ := hrel
    go_wp2
    go_ret
    exact ⟨rfl, rfl⟩
set_option maxHeartbeats 1000000 in
theorem putSteps_e (h : W.cell? ⟨bb, 20, none⟩ = some (.slice none 0 0)) : Calls Tryz.prog 45 #[.pointer (some ⟨bb, 0, none⟩)] W fun e w' => e = .returned (.tuple #[]) ∧ w' = W := by
  go_enter Tryz.func45, Tryz.ntmps45
  go_wp2
  go_loopw [2] (fun i wz => i = .int .i64 0 ∧ wz = W) (fun _ _ => 0)
  case atStart => exact ⟨rfl, rfl⟩
  case round =>
    obtain ⟨rfl, rfl⟩ := hrel
    go_wp2
    go_end0
    exact ⟨rfl, rfl⟩
set_option maxHeartbeats 1000000 in
theorem growSteps_e (h : W.cell? ⟨bb, 20, none⟩ = some (.slice none 0 0)) : Calls Tryz.prog 57 #[.pointer (some ⟨bb, 0, none⟩)] W fun e w' => e = .returned (.slice none 0 0) ∧ w' = W := by
  go_enter Tryz.func57, Tryz.ntmps57
  go_wp2
  go_loopw [3, 4] (fun o i wz => o = .slice none 0 0 ∧ i = .int .i64 0 ∧ wz = W) (fun _ _ _ => 0)
  case atStart => exact ⟨rfl, rfl, rfl⟩
  case round =>
    obtain ⟨rfl, rfl, rfl⟩ := hrel
    go_wp2
    go_ret
    exact ⟨rfl, rfl⟩
set_option maxHeartbeats 1000000 in
theorem markedSteps_e (W : World) : Calls Tryz.prog 69 #[.slice none 0 0] W fun e w' => e = .returned (.bool true) ∧ w' = W := by
  go_enter Tryz.func69, Tryz.ntmps69
  go_wp2
  go_loopw [3] (fun i wz => i = .int .i64 0 ∧ wz = W) (fun _ _ => 0)
  case atStart => exact ⟨rfl, rfl⟩
  case round =>
    obtain ⟨rfl, rfl⟩ := hrel
    go_wp2
    go_ret
    exact ⟨rfl, rfl⟩
set_option maxHeartbeats 1000000 in
theorem stillRows_e (h : W.cell? ⟨bb, 22, none⟩ = some (.slice none 0 0)) : Calls Tryz.prog 34 #[.pointer (some ⟨bb, 0, none⟩)] W fun e w' => e = .returned (.bool true) ∧ w' = W := by
  go_enter Tryz.func34, Tryz.ntmps34
  go_wp2
  go_loopw [3] (fun i wz => i = .int .i64 0 ∧ wz = W) (fun _ _ => 0)
  case atStart => exact ⟨rfl, rfl⟩
  case round =>
    obtain ⟨rfl, rfl⟩ := hrel
    go_wp2
    go_ret
    exact ⟨rfl, rfl⟩
set_option maxHeartbeats 1000000 in
theorem putRows_e (h : W.cell? ⟨bb, 22, none⟩ = some (.slice none 0 0)) : Calls Tryz.prog 46 #[.pointer (some ⟨bb, 0, none⟩)] W fun e w' => e = .returned (.tuple #[]) ∧ w' = W := by
  go_enter Tryz.func46, Tryz.ntmps46
  go_wp2
  go_loopw [2] (fun i wz => i = .int .i64 0 ∧ wz = W) (fun _ _ => 0)
  case atStart => exact ⟨rfl, rfl⟩
  case round =>
    obtain ⟨rfl, rfl⟩ := hrel
    go_wp2
    go_end0
    exact ⟨rfl, rfl⟩
set_option maxHeartbeats 1000000 in
theorem growRows_e (h : W.cell? ⟨bb, 22, none⟩ = some (.slice none 0 0)) : Calls Tryz.prog 58 #[.pointer (some ⟨bb, 0, none⟩)] W fun e w' => e = .returned (.slice none 0 0) ∧ w' = W := by
  go_enter Tryz.func58, Tryz.ntmps58
  go_wp2
  go_loopw [3, 4] (fun o i wz => o = .slice none 0 0 ∧ i = .int .i64 0 ∧ wz = W) (fun _ _ _ => 0)
  case atStart => exact ⟨rfl, rfl, rfl⟩
  case round =>
    obtain ⟨rfl, rfl, rfl⟩ := hrel
    go_wp2
    go_ret
    exact ⟨rfl, rfl⟩
set_option maxHeartbeats 1000000 in
theorem markedRows_e (W : World) : Calls Tryz.prog 70 #[.slice none 0 0] W fun e w' => e = .returned (.bool true) ∧ w' = W := by
  go_enter Tryz.func70, Tryz.ntmps70
  go_wp2
  go_loopw [3] (fun i wz => i = .int .i64 0 ∧ wz = W) (fun _ _ => 0)
  case atStart => exact ⟨rfl, rfl⟩
  case round =>
    obtain ⟨rfl, rfl⟩ := hrel
    go_wp2
    go_ret
    exact ⟨rfl, rfl⟩
end
set_option maxHeartbeats 40000000 in
set_option maxRecDepth 100000 in
theorem apart_any {base bb : Nat} {w : World} {C : Array Value} {uInts vInts : Value} {xInts yInts : List Value} {LInts : List (List tInts)} {uNotices vNotices : Value} {xNotices yNotices : List Value} {LNotices : List (List tNotices)} (hB : Bb 49 w bb C) (hC : ∀ j, j < 24 → j ≠ 0 → j ≠ 1 → j ≠ 6 → j ≠ 7 → C[j]? = some (.slice none 0 0)) (huInts : C[0]? = some uInts) (hvInts : C[1]? = some vInts) (hInts : Kk cInts 1 3 25 base w uInts vInts xInts yInts LInts) (huNotices : C[6]? = some uNotices) (hvNotices : C[7]? = some vNotices) (hNotices : Kk cNotices 3 63 29 base w uNotices vNotices xNotices yNotices LNotices) (hbz : base ≤ w.heap.size) : Calls Tryz.prog 15 #[.pointer (some ⟨bb, 0, none⟩)] w fun e w' => e = .returned (.bool true) ∧ Below base w w' := by
  have hsChars : ∀ V, Bb 49 V bb C → Calls Tryz.prog 24 #[.pointer (some ⟨bb, 0, none⟩)] V fun e w' => e = .returned (.bool true) ∧ w' = V := fun V hV => stillChars_e (by rw [cell_at hV]; exact hC 2 (by decide) (by decide) (by decide) (by decide) (by decide))
  have hpChars : ∀ V, Bb 49 V bb C → Calls Tryz.prog 36 #[.pointer (some ⟨bb, 0, none⟩)] V fun e w' => e = .returned (.tuple #[]) ∧ w' = V := fun V hV => putChars_e (by rw [cell_at hV]; exact hC 2 (by decide) (by decide) (by decide) (by decide) (by decide))
  have hgChars : ∀ V, Bb 49 V bb C → Calls Tryz.prog 48 #[.pointer (some ⟨bb, 0, none⟩)] V fun e w' => e = .returned (.slice none 0 0) ∧ w' = V := fun V hV => growChars_e (by rw [cell_at hV]; exact hC 2 (by decide) (by decide) (by decide) (by decide) (by decide))
  have hmChars := markedChars_e
  have hsTokens : ∀ V, Bb 49 V bb C → Calls Tryz.prog 25 #[.pointer (some ⟨bb, 0, none⟩)] V fun e w' => e = .returned (.bool true) ∧ w' = V := fun V hV => stillTokens_e (by rw [cell_at hV]; exact hC 4 (by decide) (by decide) (by decide) (by decide) (by decide))
  have hpTokens : ∀ V, Bb 49 V bb C → Calls Tryz.prog 37 #[.pointer (some ⟨bb, 0, none⟩)] V fun e w' => e = .returned (.tuple #[]) ∧ w' = V := fun V hV => putTokens_e (by rw [cell_at hV]; exact hC 4 (by decide) (by decide) (by decide) (by decide) (by decide))
  have hgTokens : ∀ V, Bb 49 V bb C → Calls Tryz.prog 49 #[.pointer (some ⟨bb, 0, none⟩)] V fun e w' => e = .returned (.slice none 0 0) ∧ w' = V := fun V hV => growTokens_e (by rw [cell_at hV]; exact hC 4 (by decide) (by decide) (by decide) (by decide) (by decide))
  have hmTokens := markedTokens_e
  have hsBytes : ∀ V, Bb 49 V bb C → Calls Tryz.prog 27 #[.pointer (some ⟨bb, 0, none⟩)] V fun e w' => e = .returned (.bool true) ∧ w' = V := fun V hV => stillBytes_e (by rw [cell_at hV]; exact hC 8 (by decide) (by decide) (by decide) (by decide) (by decide))
  have hpBytes : ∀ V, Bb 49 V bb C → Calls Tryz.prog 39 #[.pointer (some ⟨bb, 0, none⟩)] V fun e w' => e = .returned (.tuple #[]) ∧ w' = V := fun V hV => putBytes_e (by rw [cell_at hV]; exact hC 8 (by decide) (by decide) (by decide) (by decide) (by decide))
  have hgBytes : ∀ V, Bb 49 V bb C → Calls Tryz.prog 51 #[.pointer (some ⟨bb, 0, none⟩)] V fun e w' => e = .returned (.slice none 0 0) ∧ w' = V := fun V hV => growBytes_e (by rw [cell_at hV]; exact hC 8 (by decide) (by decide) (by decide) (by decide) (by decide))
  have hmBytes := markedBytes_e
  have hsSets : ∀ V, Bb 49 V bb C → Calls Tryz.prog 28 #[.pointer (some ⟨bb, 0, none⟩)] V fun e w' => e = .returned (.bool true) ∧ w' = V := fun V hV => stillSets_e (by rw [cell_at hV]; exact hC 10 (by decide) (by decide) (by decide) (by decide) (by decide))
  have hpSets : ∀ V, Bb 49 V bb C → Calls Tryz.prog 40 #[.pointer (some ⟨bb, 0, none⟩)] V fun e w' => e = .returned (.tuple #[]) ∧ w' = V := fun V hV => putSets_e (by rw [cell_at hV]; exact hC 10 (by decide) (by decide) (by decide) (by decide) (by decide))
  have hgSets : ∀ V, Bb 49 V bb C → Calls Tryz.prog 52 #[.pointer (some ⟨bb, 0, none⟩)] V fun e w' => e = .returned (.slice none 0 0) ∧ w' = V := fun V hV => growSets_e (by rw [cell_at hV]; exact hC 10 (by decide) (by decide) (by decide) (by decide) (by decide))
  have hmSets := markedSets_e
  have hsEvents : ∀ V, Bb 49 V bb C → Calls Tryz.prog 29 #[.pointer (some ⟨bb, 0, none⟩)] V fun e w' => e = .returned (.bool true) ∧ w' = V := fun V hV => stillEvents_e (by rw [cell_at hV]; exact hC 12 (by decide) (by decide) (by decide) (by decide) (by decide))
  have hpEvents : ∀ V, Bb 49 V bb C → Calls Tryz.prog 41 #[.pointer (some ⟨bb, 0, none⟩)] V fun e w' => e = .returned (.tuple #[]) ∧ w' = V := fun V hV => putEvents_e (by rw [cell_at hV]; exact hC 12 (by decide) (by decide) (by decide) (by decide) (by decide))
  have hgEvents : ∀ V, Bb 49 V bb C → Calls Tryz.prog 53 #[.pointer (some ⟨bb, 0, none⟩)] V fun e w' => e = .returned (.slice none 0 0) ∧ w' = V := fun V hV => growEvents_e (by rw [cell_at hV]; exact hC 12 (by decide) (by decide) (by decide) (by decide) (by decide))
  have hmEvents := markedEvents_e
  have hsErrs : ∀ V, Bb 49 V bb C → Calls Tryz.prog 30 #[.pointer (some ⟨bb, 0, none⟩)] V fun e w' => e = .returned (.bool true) ∧ w' = V := fun V hV => stillErrs_e (by rw [cell_at hV]; exact hC 14 (by decide) (by decide) (by decide) (by decide) (by decide))
  have hpErrs : ∀ V, Bb 49 V bb C → Calls Tryz.prog 42 #[.pointer (some ⟨bb, 0, none⟩)] V fun e w' => e = .returned (.tuple #[]) ∧ w' = V := fun V hV => putErrs_e (by rw [cell_at hV]; exact hC 14 (by decide) (by decide) (by decide) (by decide) (by decide))
  have hgErrs : ∀ V, Bb 49 V bb C → Calls Tryz.prog 54 #[.pointer (some ⟨bb, 0, none⟩)] V fun e w' => e = .returned (.slice none 0 0) ∧ w' = V := fun V hV => growErrs_e (by rw [cell_at hV]; exact hC 14 (by decide) (by decide) (by decide) (by decide) (by decide))
  have hmErrs := markedErrs_e
  have hsOuts : ∀ V, Bb 49 V bb C → Calls Tryz.prog 31 #[.pointer (some ⟨bb, 0, none⟩)] V fun e w' => e = .returned (.bool true) ∧ w' = V := fun V hV => stillOuts_e (by rw [cell_at hV]; exact hC 16 (by decide) (by decide) (by decide) (by decide) (by decide))
  have hpOuts : ∀ V, Bb 49 V bb C → Calls Tryz.prog 43 #[.pointer (some ⟨bb, 0, none⟩)] V fun e w' => e = .returned (.tuple #[]) ∧ w' = V := fun V hV => putOuts_e (by rw [cell_at hV]; exact hC 16 (by decide) (by decide) (by decide) (by decide) (by decide))
  have hgOuts : ∀ V, Bb 49 V bb C → Calls Tryz.prog 55 #[.pointer (some ⟨bb, 0, none⟩)] V fun e w' => e = .returned (.slice none 0 0) ∧ w' = V := fun V hV => growOuts_e (by rw [cell_at hV]; exact hC 16 (by decide) (by decide) (by decide) (by decide) (by decide))
  have hmOuts := markedOuts_e
  have hsGrams : ∀ V, Bb 49 V bb C → Calls Tryz.prog 32 #[.pointer (some ⟨bb, 0, none⟩)] V fun e w' => e = .returned (.bool true) ∧ w' = V := fun V hV => stillGrams_e (by rw [cell_at hV]; exact hC 18 (by decide) (by decide) (by decide) (by decide) (by decide))
  have hpGrams : ∀ V, Bb 49 V bb C → Calls Tryz.prog 44 #[.pointer (some ⟨bb, 0, none⟩)] V fun e w' => e = .returned (.tuple #[]) ∧ w' = V := fun V hV => putGrams_e (by rw [cell_at hV]; exact hC 18 (by decide) (by decide) (by decide) (by decide) (by decide))
  have hgGrams : ∀ V, Bb 49 V bb C → Calls Tryz.prog 56 #[.pointer (some ⟨bb, 0, none⟩)] V fun e w' => e = .returned (.slice none 0 0) ∧ w' = V := fun V hV => growGrams_e (by rw [cell_at hV]; exact hC 18 (by decide) (by decide) (by decide) (by decide) (by decide))
  have hmGrams := markedGrams_e
  have hsSteps : ∀ V, Bb 49 V bb C → Calls Tryz.prog 33 #[.pointer (some ⟨bb, 0, none⟩)] V fun e w' => e = .returned (.bool true) ∧ w' = V := fun V hV => stillSteps_e (by rw [cell_at hV]; exact hC 20 (by decide) (by decide) (by decide) (by decide) (by decide))
  have hpSteps : ∀ V, Bb 49 V bb C → Calls Tryz.prog 45 #[.pointer (some ⟨bb, 0, none⟩)] V fun e w' => e = .returned (.tuple #[]) ∧ w' = V := fun V hV => putSteps_e (by rw [cell_at hV]; exact hC 20 (by decide) (by decide) (by decide) (by decide) (by decide))
  have hgSteps : ∀ V, Bb 49 V bb C → Calls Tryz.prog 57 #[.pointer (some ⟨bb, 0, none⟩)] V fun e w' => e = .returned (.slice none 0 0) ∧ w' = V := fun V hV => growSteps_e (by rw [cell_at hV]; exact hC 20 (by decide) (by decide) (by decide) (by decide) (by decide))
  have hmSteps := markedSteps_e
  have hsRows : ∀ V, Bb 49 V bb C → Calls Tryz.prog 34 #[.pointer (some ⟨bb, 0, none⟩)] V fun e w' => e = .returned (.bool true) ∧ w' = V := fun V hV => stillRows_e (by rw [cell_at hV]; exact hC 22 (by decide) (by decide) (by decide) (by decide) (by decide))
  have hpRows : ∀ V, Bb 49 V bb C → Calls Tryz.prog 46 #[.pointer (some ⟨bb, 0, none⟩)] V fun e w' => e = .returned (.tuple #[]) ∧ w' = V := fun V hV => putRows_e (by rw [cell_at hV]; exact hC 22 (by decide) (by decide) (by decide) (by decide) (by decide))
  have hgRows : ∀ V, Bb 49 V bb C → Calls Tryz.prog 58 #[.pointer (some ⟨bb, 0, none⟩)] V fun e w' => e = .returned (.slice none 0 0) ∧ w' = V := fun V hV => growRows_e (by rw [cell_at hV]; exact hC 22 (by decide) (by decide) (by decide) (by decide) (by decide))
  have hmRows := markedRows_e
  have hst0 := stillInts_any hB huInts hvInts hInts.kl hInts.cl
  go_enter Tryz.func15, Tryz.ntmps15
  go_wp2_with (first | (go_at_call 24; (with_reducible refine (hsChars _ (by assumption)).mono ?_); rintro e vv ⟨rfl, hvv⟩; obtain rfl := hvv.symm) | (go_at_call 36; (with_reducible refine (hpChars _ (by assumption)).mono ?_); rintro e vv ⟨rfl, hvv⟩; obtain rfl := hvv.symm) | (go_at_call 48; (with_reducible refine (hgChars _ (by assumption)).mono ?_); rintro e vv ⟨rfl, hvv⟩; obtain rfl := hvv.symm) | (go_at_call 60; (with_reducible refine (hmChars _).mono ?_); rintro e vv ⟨rfl, hvv⟩; obtain rfl := hvv.symm) | (go_at_call 25; (with_reducible refine (hsTokens _ (by assumption)).mono ?_); rintro e vv ⟨rfl, hvv⟩; obtain rfl := hvv.symm) | (go_at_call 37; (with_reducible refine (hpTokens _ (by assumption)).mono ?_); rintro e vv ⟨rfl, hvv⟩; obtain rfl := hvv.symm) | (go_at_call 49; (with_reducible refine (hgTokens _ (by assumption)).mono ?_); rintro e vv ⟨rfl, hvv⟩; obtain rfl := hvv.symm) | (go_at_call 61; (with_reducible refine (hmTokens _).mono ?_); rintro e vv ⟨rfl, hvv⟩; obtain rfl := hvv.symm) | (go_at_call 27; (with_reducible refine (hsBytes _ (by assumption)).mono ?_); rintro e vv ⟨rfl, hvv⟩; obtain rfl := hvv.symm) | (go_at_call 39; (with_reducible refine (hpBytes _ (by assumption)).mono ?_); rintro e vv ⟨rfl, hvv⟩; obtain rfl := hvv.symm) | (go_at_call 51; (with_reducible refine (hgBytes _ (by assumption)).mono ?_); rintro e vv ⟨rfl, hvv⟩; obtain rfl := hvv.symm) | (go_at_call 63; (with_reducible refine (hmBytes _).mono ?_); rintro e vv ⟨rfl, hvv⟩; obtain rfl := hvv.symm) | (go_at_call 28; (with_reducible refine (hsSets _ (by assumption)).mono ?_); rintro e vv ⟨rfl, hvv⟩; obtain rfl := hvv.symm) | (go_at_call 40; (with_reducible refine (hpSets _ (by assumption)).mono ?_); rintro e vv ⟨rfl, hvv⟩; obtain rfl := hvv.symm) | (go_at_call 52; (with_reducible refine (hgSets _ (by assumption)).mono ?_); rintro e vv ⟨rfl, hvv⟩; obtain rfl := hvv.symm) | (go_at_call 64; (with_reducible refine (hmSets _).mono ?_); rintro e vv ⟨rfl, hvv⟩; obtain rfl := hvv.symm) | (go_at_call 29; (with_reducible refine (hsEvents _ (by assumption)).mono ?_); rintro e vv ⟨rfl, hvv⟩; obtain rfl := hvv.symm) | (go_at_call 41; (with_reducible refine (hpEvents _ (by assumption)).mono ?_); rintro e vv ⟨rfl, hvv⟩; obtain rfl := hvv.symm) | (go_at_call 53; (with_reducible refine (hgEvents _ (by assumption)).mono ?_); rintro e vv ⟨rfl, hvv⟩; obtain rfl := hvv.symm) | (go_at_call 65; (with_reducible refine (hmEvents _).mono ?_); rintro e vv ⟨rfl, hvv⟩; obtain rfl := hvv.symm) | (go_at_call 30; (with_reducible refine (hsErrs _ (by assumption)).mono ?_); rintro e vv ⟨rfl, hvv⟩; obtain rfl := hvv.symm) | (go_at_call 42; (with_reducible refine (hpErrs _ (by assumption)).mono ?_); rintro e vv ⟨rfl, hvv⟩; obtain rfl := hvv.symm) | (go_at_call 54; (with_reducible refine (hgErrs _ (by assumption)).mono ?_); rintro e vv ⟨rfl, hvv⟩; obtain rfl := hvv.symm) | (go_at_call 66; (with_reducible refine (hmErrs _).mono ?_); rintro e vv ⟨rfl, hvv⟩; obtain rfl := hvv.symm) | (go_at_call 31; (with_reducible refine (hsOuts _ (by assumption)).mono ?_); rintro e vv ⟨rfl, hvv⟩; obtain rfl := hvv.symm) | (go_at_call 43; (with_reducible refine (hpOuts _ (by assumption)).mono ?_); rintro e vv ⟨rfl, hvv⟩; obtain rfl := hvv.symm) | (go_at_call 55; (with_reducible refine (hgOuts _ (by assumption)).mono ?_); rintro e vv ⟨rfl, hvv⟩; obtain rfl := hvv.symm) | (go_at_call 67; (with_reducible refine (hmOuts _).mono ?_); rintro e vv ⟨rfl, hvv⟩; obtain rfl := hvv.symm) | (go_at_call 32; (with_reducible refine (hsGrams _ (by assumption)).mono ?_); rintro e vv ⟨rfl, hvv⟩; obtain rfl := hvv.symm) | (go_at_call 44; (with_reducible refine (hpGrams _ (by assumption)).mono ?_); rintro e vv ⟨rfl, hvv⟩; obtain rfl := hvv.symm) | (go_at_call 56; (with_reducible refine (hgGrams _ (by assumption)).mono ?_); rintro e vv ⟨rfl, hvv⟩; obtain rfl := hvv.symm) | (go_at_call 68; (with_reducible refine (hmGrams _).mono ?_); rintro e vv ⟨rfl, hvv⟩; obtain rfl := hvv.symm) | (go_at_call 33; (with_reducible refine (hsSteps _ (by assumption)).mono ?_); rintro e vv ⟨rfl, hvv⟩; obtain rfl := hvv.symm) | (go_at_call 45; (with_reducible refine (hpSteps _ (by assumption)).mono ?_); rintro e vv ⟨rfl, hvv⟩; obtain rfl := hvv.symm) | (go_at_call 57; (with_reducible refine (hgSteps _ (by assumption)).mono ?_); rintro e vv ⟨rfl, hvv⟩; obtain rfl := hvv.symm) | (go_at_call 69; (with_reducible refine (hmSteps _).mono ?_); rintro e vv ⟨rfl, hvv⟩; obtain rfl := hvv.symm) | (go_at_call 34; (with_reducible refine (hsRows _ (by assumption)).mono ?_); rintro e vv ⟨rfl, hvv⟩; obtain rfl := hvv.symm) | (go_at_call 46; (with_reducible refine (hpRows _ (by assumption)).mono ?_); rintro e vv ⟨rfl, hvv⟩; obtain rfl := hvv.symm) | (go_at_call 58; (with_reducible refine (hgRows _ (by assumption)).mono ?_); rintro e vv ⟨rfl, hvv⟩; obtain rfl := hvv.symm) | (go_at_call 70; (with_reducible refine (hmRows _).mono ?_); rintro e vv ⟨rfl, hvv⟩; obtain rfl := hvv.symm) | (go_at_call 23; (with_reducible refine hst0.mono ?_); rintro e z0 ⟨rfl, hb0⟩; have hB0 := hB.carry hb0; have hInts0 := hInts.carry hb0; have hNotices0 := hNotices.carry hb0; have HB0 : Hid (Below base w z0) := (hb0.mono (Nat.le_trans hbz (Nat.le_refl _))); have hst1 := stillNotices_any hB0 huNotices hvNotices hNotices0.kl hNotices0.cl; clear hB) | (go_at_call 26; (with_reducible refine hst1.mono ?_); rintro e z1 ⟨rfl, hb1⟩; have hB1 := hB0.carry hb1; have hInts1 := hInts0.carry hb1; have hNotices1 := hNotices0.carry hb1; have HB1 : Hid (Below base w z1) := HB0.out.trans (hb1.mono (Nat.le_trans hbz HB0.out.size)); have hst2 := putInts_any hB1 huInts hInts1.kl; clear hB0) | (go_at_call 35; (with_reducible refine hst2.mono ?_); rintro e z2 ⟨rfl, ⟨L2, hn2, hup2⟩, hb2⟩; have hB2 := hB1.bxt hInts1.kl hb2 (by decide); have hNotices2 := hNotices1.kl.bxt hInts1.kl hb2 (by decide) (by decide); have HB2 : Hid (Below base w z2) := HB1.out.trans (hb2.low hInts1.kl (Nat.le_trans hbz HB1.out.size)); have HMInts : Hid (Mkd mInts L2) := hup2.all; have hst3 := putNotices_any hB2 huNotices hNotices2; clear hB1) | (go_at_call 38; (with_reducible refine hst3.mono ?_); rintro e z3 ⟨rfl, ⟨L3, hn3, hup3⟩, hb3⟩; have hB3 := hB2.bxt hNotices2 hb3 (by decide); have hInts3 := hn2.bxt hNotices2 hb3 (by decide) (by decide); have HB3 : Hid (Below base w z3) := HB2.out.trans (hb3.low hNotices2 (Nat.le_trans hbz HB2.out.size)); have HMNotices : Hid (Mkd mNotices L3) := hup3.all; have hst4 := growInts_any hB3 huInts hInts3 HMInts.out (Nat.le_trans hbz HB3.out.size); clear hB2) | (go_at_call 47; (with_reducible refine hst4.mono ?_); rintro e z4 ⟨uoInts, rfl, OInts, hro4Ints, hgk4Ints, hn4, hb4⟩; have hB4 := hB3.bxt hInts3 hb4 (by decide); have hNotices4 := hn3.bxt hInts3 hb4 (by decide) (by decide); have HB4 : Hid (Below base w z4) := HB3.out.trans (hb4.low hInts3 (Nat.le_trans hbz HB3.out.size)); have hst5 := growNotices_any hB4 huNotices hNotices4 HMNotices.out (Nat.le_trans hbz HB4.out.size); clear hB3) | (go_at_call 50; (with_reducible refine hst5.mono ?_); rintro e z5 ⟨uoNotices, rfl, ONotices, hro5Notices, hgk5Notices, hn5, hb5⟩; have hB5 := hB4.bxt hNotices4 hb5 (by decide); have hInts5 := hn4.bxt hNotices4 hb5 (by decide) (by decide); have hro5Ints := row_bxt hro4Ints hNotices4 hb5 (by decide); have hgk5Ints := hgk4Ints.bxt hNotices4 hb5 (by decide); have HB5 : Hid (Below base w z5) := HB4.out.trans (hb5.low hNotices4 (Nat.le_trans hbz HB4.out.size)); have hst6 := markedInts_any hro5Ints hgk5Ints.mkn hInts5.k; clear hB4) | (go_at_call 59; (with_reducible refine hst6.mono ?_); rintro e z6 ⟨rfl, hb6⟩; clear hst6; have hB6 := hB5.carry hb6; have hInts6 := hInts5.carry hb6; have hro6Ints := row_below hro5Ints hb6; have hgk6Ints := hgk5Ints.carry hb6; have hNotices6 := hn5.carry hb6; have hro6Notices := row_below hro5Notices hb6; have hgk6Notices := hgk5Notices.carry hb6; have HB6 : Hid (Below base w z6) := HB5.out.trans (hb6.mono (Nat.le_trans hbz HB5.out.size)); have hst7 := markedInts_any hInts6.row (Mkn.of hInts6 HMInts.out) hInts6.k; have c6_0 : z6.cell? ⟨bb, 0, none⟩ = some uInts := (by rw [cell_at hB6]; exact huInts); clear hB5) | (go_at_call 59; (with_reducible refine hst7.mono ?_); rintro e z7 ⟨rfl, hb7⟩; clear hst7; have hB7 := hB6.carry hb7; have hInts7 := hInts6.carry hb7; have hro7Ints := row_below hro6Ints hb7; have hgk7Ints := hgk6Ints.carry hb7; have hNotices7 := hNotices6.carry hb7; have hro7Notices := row_below hro6Notices hb7; have hgk7Notices := hgk6Notices.carry hb7; have HB7 : Hid (Below base w z7) := HB6.out.trans (hb7.mono (Nat.le_trans hbz HB6.out.size)); have hst8 := markedNotices_any hro7Notices hgk7Notices.mkn hNotices7.k; have c7_2 : z7.cell? ⟨bb, 2, none⟩ = some (.slice none 0 0) := (by rw [cell_at hB7]; exact hC 2 (by decide) (by decide) (by decide) (by decide) (by decide)); have c7_4 : z7.cell? ⟨bb, 4, none⟩ = some (.slice none 0 0) := (by rw [cell_at hB7]; exact hC 4 (by decide) (by decide) (by decide) (by decide) (by decide)); clear hB6) | (go_at_call 62; (with_reducible refine hst8.mono ?_); rintro e z8 ⟨rfl, hb8⟩; clear hst8; have hB8 := hB7.carry hb8; have hInts8 := hInts7.carry hb8; have hro8Ints := row_below hro7Ints hb8; have hgk8Ints := hgk7Ints.carry hb8; have hNotices8 := hNotices7.carry hb8; have hro8Notices := row_below hro7Notices hb8; have hgk8Notices := hgk7Notices.carry hb8; have HB8 : Hid (Below base w z8) := HB7.out.trans (hb8.mono (Nat.le_trans hbz HB7.out.size)); have hst9 := markedNotices_any hNotices8.row (Mkn.of hNotices8 HMNotices.out) hNotices8.k; have c8_6 : z8.cell? ⟨bb, 6, none⟩ = some uNotices := (by rw [cell_at hB8]; exact huNotices); clear hB7) | (go_at_call 62; (with_reducible refine hst9.mono ?_); rintro e z9 ⟨rfl, hb9⟩; clear hst9; have hB9 := hB8.carry hb9; have hInts9 := hInts8.carry hb9; have hro9Ints := row_below hro8Ints hb9; have hgk9Ints := hgk8Ints.carry hb9; have hNotices9 := hNotices8.carry hb9; have hro9Notices := row_below hro8Notices hb9; have hgk9Notices := hgk8Notices.carry hb9; have HB9 : Hid (Below base w z9) := HB8.out.trans (hb9.mono (Nat.le_trans hbz HB8.out.size)); have c9_8 : z9.cell? ⟨bb, 8, none⟩ = some (.slice none 0 0) := (by rw [cell_at hB9]; exact hC 8 (by decide) (by decide) (by decide) (by decide) (by decide)); have c9_10 : z9.cell? ⟨bb, 10, none⟩ = some (.slice none 0 0) := (by rw [cell_at hB9]; exact hC 10 (by decide) (by decide) (by decide) (by decide) (by decide)); have c9_12 : z9.cell? ⟨bb, 12, none⟩ = some (.slice none 0 0) := (by rw [cell_at hB9]; exact hC 12 (by decide) (by decide) (by decide) (by decide) (by decide)); have c9_14 : z9.cell? ⟨bb, 14, none⟩ = some (.slice none 0 0) := (by rw [cell_at hB9]; exact hC 14 (by decide) (by decide) (by decide) (by decide) (by decide)); have c9_16 : z9.cell? ⟨bb, 16, none⟩ = some (.slice none 0 0) := (by rw [cell_at hB9]; exact hC 16 (by decide) (by decide) (by decide) (by decide) (by decide)); have c9_18 : z9.cell? ⟨bb, 18, none⟩ = some (.slice none 0 0) := (by rw [cell_at hB9]; exact hC 18 (by decide) (by decide) (by decide) (by decide) (by decide)); have c9_20 : z9.cell? ⟨bb, 20, none⟩ = some (.slice none 0 0) := (by rw [cell_at hB9]; exact hC 20 (by decide) (by decide) (by decide) (by decide) (by decide)); have c9_22 : z9.cell? ⟨bb, 22, none⟩ = some (.slice none 0 0) := (by rw [cell_at hB9]; exact hC 22 (by decide) (by decide) (by decide) (by decide) (by decide)); clear hB8))
  go_ret
  exact ⟨rfl, HB9.out⟩
end Go.Proofs.YtgnhainfcfcodaaGreat.Kel
