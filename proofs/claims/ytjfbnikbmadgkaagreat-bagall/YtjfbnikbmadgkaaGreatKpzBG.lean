/- earshotbook's Apart: of the kinds Bytes, Grams. -/
import Derived.Test.YtjfbnikbmadgkaaGreatKpBytes
import Derived.Test.YtjfbnikbmadgkaaGreatKpGrams
namespace Go.Proofs.YtjfbnikbmadgkaaGreat.Kel
open Go.RowKit Go.Shelf Go.Lib

section
variable {W : World} {bb : Nat}
set_option maxHeartbeats 1000000 in
theorem stillInts_e (h : W.cell? ⟨bb, 0, none⟩ = some (.slice none 0 0)) : Calls Tryz.prog 31 #[.pointer (some ⟨bb, 0, none⟩)] W fun e w' => e = .returned (.bool true) ∧ w' = W := by
  go_enter Tryz.func31, Tryz.ntmps31
  go_wp2
  go_loopw [3] (fun i wz => i = .int .i64 0 ∧ wz = W) (fun _ _ => 0)
  case atStart => exact ⟨rfl, rfl⟩
  case round =>
    obtain ⟨rfl, rfl⟩ := hrel
    go_wp2
    go_ret
    exact ⟨rfl, rfl⟩
set_option maxHeartbeats 1000000 in
theorem putInts_e (h : W.cell? ⟨bb, 0, none⟩ = some (.slice none 0 0)) : Calls Tryz.prog 43 #[.pointer (some ⟨bb, 0, none⟩)] W fun e w' => e = .returned (.tuple #[]) ∧ w' = W := by
  go_enter Tryz.func43, Tryz.ntmps43
  go_wp2
  go_loopw [2] (fun i wz => i = .int .i64 0 ∧ wz = W) (fun _ _ => 0)
  case atStart => exact ⟨rfl, rfl⟩
  case round =>
    obtain ⟨rfl, rfl⟩ := hrel
    go_wp2
    go_end0
    exact ⟨rfl, rfl⟩
set_option maxHeartbeats 1000000 in
theorem growInts_e (h : W.cell? ⟨bb, 0, none⟩ = some (.slice none 0 0)) : Calls Tryz.prog 55 #[.pointer (some ⟨bb, 0, none⟩)] W fun e w' => e = .returned (.slice none 0 0) ∧ w' = W := by
  go_enter Tryz.func55, Tryz.ntmps55
  go_wp2
  go_loopw [3, 4] (fun o i wz => o = .slice none 0 0 ∧ i = .int .i64 0 ∧ wz = W) (fun _ _ _ => 0)
  case atStart => exact ⟨rfl, rfl, rfl⟩
  case round =>
    obtain ⟨rfl, rfl, rfl⟩ := hrel
    go_wp2
    go_ret
    exact ⟨rfl, rfl⟩
set_option maxHeartbeats 1000000 in
theorem markedInts_e (W : World) : Calls Tryz.prog 67 #[.slice none 0 0] W fun e w' => e = .returned (.bool true) ∧ w' = W := by
  go_enter Tryz.func67, Tryz.ntmps67
  go_wp2
  go_loopw [3] (fun i wz => i = .int .i64 0 ∧ wz = W) (fun _ _ => 0)
  case atStart => exact ⟨rfl, rfl⟩
  case round =>
    obtain ⟨rfl, rfl⟩ := hrel
    go_wp2
    go_ret
    exact ⟨rfl, rfl⟩
set_option maxHeartbeats 1000000 in
theorem stillChars_e (h : W.cell? ⟨bb, 2, none⟩ = some (.slice none 0 0)) : Calls Tryz.prog 32 #[.pointer (some ⟨bb, 0, none⟩)] W fun e w' => e = .returned (.bool true) ∧ w' = W := by
  go_enter Tryz.func32, Tryz.ntmps32
  go_wp2
  go_loopw [3] (fun i wz => i = .int .i64 0 ∧ wz = W) (fun _ _ => 0)
  case atStart => exact ⟨rfl, rfl⟩
  case round =>
    obtain ⟨rfl, rfl⟩ := hrel
    go_wp2
    go_ret
    exact ⟨rfl, rfl⟩
set_option maxHeartbeats 1000000 in
theorem putChars_e (h : W.cell? ⟨bb, 2, none⟩ = some (.slice none 0 0)) : Calls Tryz.prog 44 #[.pointer (some ⟨bb, 0, none⟩)] W fun e w' => e = .returned (.tuple #[]) ∧ w' = W := by
  go_enter Tryz.func44, Tryz.ntmps44
  go_wp2
  go_loopw [2] (fun i wz => i = .int .i64 0 ∧ wz = W) (fun _ _ => 0)
  case atStart => exact ⟨rfl, rfl⟩
  case round =>
    obtain ⟨rfl, rfl⟩ := hrel
    go_wp2
    go_end0
    exact ⟨rfl, rfl⟩
set_option maxHeartbeats 1000000 in
theorem growChars_e (h : W.cell? ⟨bb, 2, none⟩ = some (.slice none 0 0)) : Calls Tryz.prog 56 #[.pointer (some ⟨bb, 0, none⟩)] W fun e w' => e = .returned (.slice none 0 0) ∧ w' = W := by
  go_enter Tryz.func56, Tryz.ntmps56
  go_wp2
  go_loopw [3, 4] (fun o i wz => o = .slice none 0 0 ∧ i = .int .i64 0 ∧ wz = W) (fun _ _ _ => 0)
  case atStart => exact ⟨rfl, rfl, rfl⟩
  case round =>
    obtain ⟨rfl, rfl, rfl⟩ := hrel
    go_wp2
    go_ret
    exact ⟨rfl, rfl⟩
set_option maxHeartbeats 1000000 in
theorem markedChars_e (W : World) : Calls Tryz.prog 68 #[.slice none 0 0] W fun e w' => e = .returned (.bool true) ∧ w' = W := by
  go_enter Tryz.func68, Tryz.ntmps68
  go_wp2
  go_loopw [3] (fun i wz => i = .int .i64 0 ∧ wz = W) (fun _ _ => 0)
  case atStart => exact ⟨rfl, rfl⟩
  case round =>
    obtain ⟨rfl, rfl⟩ := hrel
    go_wp2
    go_ret
    exact ⟨rfl, rfl⟩
set_option maxHeartbeats 1000000 in
theorem stillTokens_e (h : W.cell? ⟨bb, 4, none⟩ = some (.slice none 0 0)) : Calls Tryz.prog 33 #[.pointer (some ⟨bb, 0, none⟩)] W fun e w' => e = .returned (.bool true) ∧ w' = W := by
  go_enter Tryz.func33, Tryz.ntmps33
  go_wp2
  go_loopw [3] (fun i wz => i = .int .i64 0 ∧ wz = W) (fun _ _ => 0)
  case atStart => exact ⟨rfl, rfl⟩
  case round =>
    obtain ⟨rfl, rfl⟩ := hrel
    go_wp2
    go_ret
    exact ⟨rfl, rfl⟩
set_option maxHeartbeats 1000000 in
theorem putTokens_e (h : W.cell? ⟨bb, 4, none⟩ = some (.slice none 0 0)) : Calls Tryz.prog 45 #[.pointer (some ⟨bb, 0, none⟩)] W fun e w' => e = .returned (.tuple #[]) ∧ w' = W := by
  go_enter Tryz.func45, Tryz.ntmps45
  go_wp2
  go_loopw [2] (fun i wz => i = .int .i64 0 ∧ wz = W) (fun _ _ => 0)
  case atStart => exact ⟨rfl, rfl⟩
  case round =>
    obtain ⟨rfl, rfl⟩ := hrel
    go_wp2
    go_end0
    exact ⟨rfl, rfl⟩
set_option maxHeartbeats 1000000 in
theorem growTokens_e (h : W.cell? ⟨bb, 4, none⟩ = some (.slice none 0 0)) : Calls Tryz.prog 57 #[.pointer (some ⟨bb, 0, none⟩)] W fun e w' => e = .returned (.slice none 0 0) ∧ w' = W := by
  go_enter Tryz.func57, Tryz.ntmps57
  go_wp2
  go_loopw [3, 4] (fun o i wz => o = .slice none 0 0 ∧ i = .int .i64 0 ∧ wz = W) (fun _ _ _ => 0)
  case atStart => exact ⟨rfl, rfl, rfl⟩
  case round =>
    obtain ⟨rfl, rfl, rfl⟩ := hrel
    go_wp2
    go_ret
    exact ⟨rfl, rfl⟩
set_option maxHeartbeats 1000000 in
theorem markedTokens_e (W : World) : Calls Tryz.prog 69 #[.slice none 0 0] W fun e w' => e = .returned (.bool true) ∧ w' = W := by
  go_enter Tryz.func69, Tryz.ntmps69
  go_wp2
  go_loopw [3] (fun i wz => i = .int .i64 0 ∧ wz = W) (fun _ _ => 0)
  case atStart => exact ⟨rfl, rfl⟩
  case round =>
    obtain ⟨rfl, rfl⟩ := hrel
    go_wp2
    go_ret
    exact ⟨rfl, rfl⟩
set_option maxHeartbeats 1000000 in
theorem stillNotices_e (h : W.cell? ⟨bb, 6, none⟩ = some (.slice none 0 0)) : Calls Tryz.prog 34 #[.pointer (some ⟨bb, 0, none⟩)] W fun e w' => e = .returned (.bool true) ∧ w' = W := by
  go_enter Tryz.func34, Tryz.ntmps34
  go_wp2
  go_loopw [3] (fun i wz => i = .int .i64 0 ∧ wz = W) (fun _ _ => 0)
  case atStart => exact ⟨rfl, rfl⟩
  case round =>
    obtain ⟨rfl, rfl⟩ := hrel
    go_wp2
    go_ret
    exact ⟨rfl, rfl⟩
set_option maxHeartbeats 1000000 in
theorem putNotices_e (h : W.cell? ⟨bb, 6, none⟩ = some (.slice none 0 0)) : Calls Tryz.prog 46 #[.pointer (some ⟨bb, 0, none⟩)] W fun e w' => e = .returned (.tuple #[]) ∧ w' = W := by
  go_enter Tryz.func46, Tryz.ntmps46
  go_wp2
  go_loopw [2] (fun i wz => i = .int .i64 0 ∧ wz = W) (fun _ _ => 0)
  case atStart => exact ⟨rfl, rfl⟩
  case round =>
    obtain ⟨rfl, rfl⟩ := hrel
    go_wp2
    go_end0
    exact ⟨rfl, rfl⟩
set_option maxHeartbeats 1000000 in
theorem growNotices_e (h : W.cell? ⟨bb, 6, none⟩ = some (.slice none 0 0)) : Calls Tryz.prog 58 #[.pointer (some ⟨bb, 0, none⟩)] W fun e w' => e = .returned (.slice none 0 0) ∧ w' = W := by
  go_enter Tryz.func58, Tryz.ntmps58
  go_wp2
  go_loopw [3, 4] (fun o i wz => o = .slice none 0 0 ∧ i = .int .i64 0 ∧ wz = W) (fun _ _ _ => 0)
  case atStart => exact ⟨rfl, rfl, rfl⟩
  case round =>
    obtain ⟨rfl, rfl, rfl⟩ := hrel
    go_wp2
    go_ret
    exact ⟨rfl, rfl⟩
set_option maxHeartbeats 1000000 in
theorem markedNotices_e (W : World) : Calls Tryz.prog 70 #[.slice none 0 0] W fun e w' => e = .returned (.bool true) ∧ w' = W := by
  go_enter Tryz.func70, Tryz.ntmps70
  go_wp2
  go_loopw [3] (fun i wz => i = .int .i64 0 ∧ wz = W) (fun _ _ => 0)
  case atStart => exact ⟨rfl, rfl⟩
  case round =>
    obtain ⟨rfl, rfl⟩ := hrel
    go_wp2
    go_ret
    exact ⟨rfl, rfl⟩
set_option maxHeartbeats 1000000 in
theorem stillSets_e (h : W.cell? ⟨bb, 10, none⟩ = some (.slice none 0 0)) : Calls Tryz.prog 36 #[.pointer (some ⟨bb, 0, none⟩)] W fun e w' => e = .returned (.bool true) ∧ w' = W := by
  go_enter Tryz.func36, Tryz.ntmps36
  go_wp2
  go_loopw [3] (fun i wz => i = .int .i64 0 ∧ wz = W) (fun _ _ => 0)
  case atStart => exact ⟨rfl, rfl⟩
  case round =>
    obtain ⟨rfl, rfl⟩ := hrel
    go_wp2
    go_ret
    exact ⟨rfl, rfl⟩
set_option maxHeartbeats 1000000 in
theorem putSets_e (h : W.cell? ⟨bb, 10, none⟩ = some (.slice none 0 0)) : Calls Tryz.prog 48 #[.pointer (some ⟨bb, 0, none⟩)] W fun e w' => e = .returned (.tuple #[]) ∧ w' = W := by
  go_enter Tryz.func48, Tryz.ntmps48
  go_wp2
  go_loopw [2] (fun i wz => i = .int .i64 0 ∧ wz = W) (fun _ _ => 0)
  case atStart => exact ⟨rfl, rfl⟩
  case round =>
    obtain ⟨rfl, rfl⟩ := hrel
    go_wp2
    go_end0
    exact ⟨rfl, rfl⟩
set_option maxHeartbeats 1000000 in
theorem growSets_e (h : W.cell? ⟨bb, 10, none⟩ = some (.slice none 0 0)) : Calls Tryz.prog 60 #[.pointer (some ⟨bb, 0, none⟩)] W fun e w' => e = .returned (.slice none 0 0) ∧ w' = W := by
  go_enter Tryz.func60, Tryz.ntmps60
  go_wp2
  go_loopw [3, 4] (fun o i wz => o = .slice none 0 0 ∧ i = .int .i64 0 ∧ wz = W) (fun _ _ _ => 0)
  case atStart => exact ⟨rfl, rfl, rfl⟩
  case round =>
    obtain ⟨rfl, rfl, rfl⟩ := hrel
    go_wp2
    go_ret
    exact ⟨rfl, rfl⟩
set_option maxHeartbeats 1000000 in
theorem markedSets_e (W : World) : Calls Tryz.prog 72 #[.slice none 0 0] W fun e w' => e = .returned (.bool true) ∧ w' = W := by
  go_enter Tryz.func72, Tryz.ntmps72
  go_wp2
  go_loopw [3] (fun i wz => i = .int .i64 0 ∧ wz = W) (fun _ _ => 0)
  case atStart => exact ⟨rfl, rfl⟩
  case round =>
    obtain ⟨rfl, rfl⟩ := hrel
    go_wp2
    go_ret
    exact ⟨rfl, rfl⟩
set_option maxHeartbeats 1000000 in
theorem stillEvents_e (h : W.cell? ⟨bb, 12, none⟩ = some (.slice none 0 0)) : Calls Tryz.prog 37 #[.pointer (some ⟨bb, 0, none⟩)] W fun e w' => e = .returned (.bool true) ∧ w' = W := by
  go_enter Tryz.func37, Tryz.ntmps37
  go_wp2
  go_loopw [3] (fun i wz => i = .int .i64 0 ∧ wz = W) (fun _ _ => 0)
  case atStart => exact ⟨rfl, rfl⟩
  case round =>
    obtain ⟨rfl, rfl⟩ := hrel
    go_wp2
    go_ret
    exact ⟨rfl, rfl⟩
set_option maxHeartbeats 1000000 in
theorem putEvents_e (h : W.cell? ⟨bb, 12, none⟩ = some (.slice none 0 0)) : Calls Tryz.prog 49 #[.pointer (some ⟨bb, 0, none⟩)] W fun e w' => e = .returned (.tuple #[]) ∧ w' = W := by
  go_enter Tryz.func49, Tryz.ntmps49
  go_wp2
  go_loopw [2] (fun i wz => i = .int .i64 0 ∧ wz = W) (fun _ _ => 0)
  case atStart => exact ⟨rfl, rfl⟩
  case round =>
    obtain ⟨rfl, rfl⟩ := hrel
    go_wp2
    go_end0
    exact ⟨rfl, rfl⟩
set_option maxHeartbeats 1000000 in
theorem growEvents_e (h : W.cell? ⟨bb, 12, none⟩ = some (.slice none 0 0)) : Calls Tryz.prog 61 #[.pointer (some ⟨bb, 0, none⟩)] W fun e w' => e = .returned (.slice none 0 0) ∧ w' = W := by
  go_enter Tryz.func61, Tryz.ntmps61
  go_wp2
  go_loopw [3, 4] (fun o i wz => o = .slice none 0 0 ∧ i = .int .i64 0 ∧ wz = W) (fun _ _ _ => 0)
  case atStart => exact ⟨rfl, rfl, rfl⟩
  case round =>
    obtain ⟨rfl, rfl, rfl⟩ := hrel
    go_wp2
    go_ret
    exact ⟨rfl, rfl⟩
set_option maxHeartbeats 1000000 in
theorem markedEvents_e (W : World) : Calls Tryz.prog 73 #[.slice none 0 0] W fun e w' => e = .returned (.bool true) ∧ w' = W := by
  go_enter Tryz.func73, Tryz.ntmps73
  go_wp2
  go_loopw [3] (fun i wz => i = .int .i64 0 ∧ wz = W) (fun _ _ => 0)
  case atStart => exact ⟨rfl, rfl⟩
  case round =>
    obtain ⟨rfl, rfl⟩ := hrel
    go_wp2
    go_ret
    exact ⟨rfl, rfl⟩
set_option maxHeartbeats 1000000 in
theorem stillErrs_e (h : W.cell? ⟨bb, 14, none⟩ = some (.slice none 0 0)) : Calls Tryz.prog 38 #[.pointer (some ⟨bb, 0, none⟩)] W fun e w' => e = .returned (.bool true) ∧ w' = W := by
  go_enter Tryz.func38, Tryz.ntmps38
  go_wp2
  go_loopw [3] (fun i wz => i = .int .i64 0 ∧ wz = W) (fun _ _ => 0)
  case atStart => exact ⟨rfl, rfl⟩
  case round =>
    obtain ⟨rfl, rfl⟩ := hrel
    go_wp2
    go_ret
    exact ⟨rfl, rfl⟩
set_option maxHeartbeats 1000000 in
theorem putErrs_e (h : W.cell? ⟨bb, 14, none⟩ = some (.slice none 0 0)) : Calls Tryz.prog 50 #[.pointer (some ⟨bb, 0, none⟩)] W fun e w' => e = .returned (.tuple #[]) ∧ w' = W := by
  go_enter Tryz.func50, Tryz.ntmps50
  go_wp2
  go_loopw [2] (fun i wz => i = .int .i64 0 ∧ wz = W) (fun _ _ => 0)
  case atStart => exact ⟨rfl, rfl⟩
  case round =>
    obtain ⟨rfl, rfl⟩ := hrel
    go_wp2
    go_end0
    exact ⟨rfl, rfl⟩
set_option maxHeartbeats 1000000 in
theorem growErrs_e (h : W.cell? ⟨bb, 14, none⟩ = some (.slice none 0 0)) : Calls Tryz.prog 62 #[.pointer (some ⟨bb, 0, none⟩)] W fun e w' => e = .returned (.slice none 0 0) ∧ w' = W := by
  go_enter Tryz.func62, Tryz.ntmps62
  go_wp2
  go_loopw [3, 4] (fun o i wz => o = .slice none 0 0 ∧ i = .int .i64 0 ∧ wz = W) (fun _ _ _ => 0)
  case atStart => exact ⟨rfl, rfl, rfl⟩
  case round =>
    obtain ⟨rfl, rfl, rfl⟩ := hrel
    go_wp2
    go_ret
    exact ⟨rfl, rfl⟩
set_option maxHeartbeats 1000000 in
theorem markedErrs_e (W : World) : Calls Tryz.prog 74 #[.slice none 0 0] W fun e w' => e = .returned (.bool true) ∧ w' = W := by
  go_enter Tryz.func74, Tryz.ntmps74
  go_wp2
  go_loopw [3] (fun i wz => i = .int .i64 0 ∧ wz = W) (fun _ _ => 0)
  case atStart => exact ⟨rfl, rfl⟩
  case round =>
    obtain ⟨rfl, rfl⟩ := hrel
    go_wp2
    go_ret
    exact ⟨rfl, rfl⟩
set_option maxHeartbeats 1000000 in
theorem stillOuts_e (h : W.cell? ⟨bb, 16, none⟩ = some (.slice none 0 0)) : Calls Tryz.prog 39 #[.pointer (some ⟨bb, 0, none⟩)] W fun e w' => e = .returned (.bool true) ∧ w' = W := by
  go_enter Tryz.func39, Tryz.ntmps39
  go_wp2
  go_loopw [3] (fun i wz => i = .int .i64 0 ∧ wz = W) (fun _ _ => 0)
  case atStart => exact ⟨rfl, rfl⟩
  case round =>
    obtain ⟨rfl, rfl⟩ := hrel
    go_wp2
    go_ret
    exact ⟨rfl, rfl⟩
set_option maxHeartbeats 1000000 in
theorem putOuts_e (h : W.cell? ⟨bb, 16, none⟩ = some (.slice none 0 0)) : Calls Tryz.prog 51 #[.pointer (some ⟨bb, 0, none⟩)] W fun e w' => e = .returned (.tuple #[]) ∧ w' = W := by
  go_enter Tryz.func51, Tryz.ntmps51
  go_wp2
  go_loopw [2] (fun i wz => i = .int .i64 0 ∧ wz = W) (fun _ _ => 0)
  case atStart => exact ⟨rfl, rfl⟩
  case round =>
    obtain ⟨rfl, rfl⟩ := hrel
    go_wp2
    go_end0
    exact ⟨rfl, rfl⟩
set_option maxHeartbeats 1000000 in
theorem growOuts_e (h : W.cell? ⟨bb, 16, none⟩ = some (.slice none 0 0)) : Calls Tryz.prog 63 #[.pointer (some ⟨bb, 0, none⟩)] W fun e w' => e = .returned (.slice none 0 0) ∧ w' = W := by
  go_enter Tryz.func63, Tryz.ntmps63
  go_wp2
  go_loopw [3, 4] (fun o i wz => o = .slice none 0 0 ∧ i = .int .i64 0 ∧ wz = W) (fun _ _ _ => 0)
  case atStart => exact ⟨rfl, rfl, rfl⟩
  case round =>
    obtain ⟨rfl, rfl, rfl⟩ := hrel
    go_wp2
    go_ret
    exact ⟨rfl, rfl⟩
set_option maxHeartbeats 1000000 in
theorem markedOuts_e (W : World) : Calls Tryz.prog 75 #[.slice none 0 0] W fun e w' => e = .returned (.bool true) ∧ w' = W := by
  go_enter Tryz.func75, Tryz.ntmps75
  go_wp2
  go_loopw [3] (fun i wz => i = .int .i64 0 ∧ wz = W) (fun _ _ => 0)
  case atStart => exact ⟨rfl, rfl⟩
  case round =>
    obtain ⟨rfl, rfl⟩ := hrel
    go_wp2
    go_ret
    exact ⟨rfl, rfl⟩
set_option maxHeartbeats 1000000 in
theorem stillSteps_e (h : W.cell? ⟨bb, 20, none⟩ = some (.slice none 0 0)) : Calls Tryz.prog 41 #[.pointer (some ⟨bb, 0, none⟩)] W fun e w' => e = .returned (.bool true) ∧ w' = W := by
  go_enter Tryz.func41, Tryz.ntmps41
  go_wp2
  go_loopw [3] (fun i wz => i = .int .i64 0 ∧ wz = W) (fun _ _ => 0)
  case atStart => exact ⟨rfl, rfl⟩
  case round =>
    obtain ⟨rfl, rfl⟩ := hrel
    go_wp2
    go_ret
    exact ⟨rfl, rfl⟩
set_option maxHeartbeats 1000000 in
theorem putSteps_e (h : W.cell? ⟨bb, 20, none⟩ = some (.slice none 0 0)) : Calls Tryz.prog 53 #[.pointer (some ⟨bb, 0, none⟩)] W fun e w' => e = .returned (.tuple #[]) ∧ w' = W := by
  go_enter Tryz.func53, Tryz.ntmps53
  go_wp2
  go_loopw [2] (fun i wz => i = .int .i64 0 ∧ wz = W) (fun _ _ => 0)
  case atStart => exact ⟨rfl, rfl⟩
  case round =>
    obtain ⟨rfl, rfl⟩ := hrel
    go_wp2
    go_end0
    exact ⟨rfl, rfl⟩
set_option maxHeartbeats 1000000 in
theorem growSteps_e (h : W.cell? ⟨bb, 20, none⟩ = some (.slice none 0 0)) : Calls Tryz.prog 65 #[.pointer (some ⟨bb, 0, none⟩)] W fun e w' => e = .returned (.slice none 0 0) ∧ w' = W := by
  go_enter Tryz.func65, Tryz.ntmps65
  go_wp2
  go_loopw [3, 4] (fun o i wz => o = .slice none 0 0 ∧ i = .int .i64 0 ∧ wz = W) (fun _ _ _ => 0)
  case atStart => exact ⟨rfl, rfl, rfl⟩
  case round =>
    obtain ⟨rfl, rfl, rfl⟩ := hrel
    go_wp2
    go_ret
    exact ⟨rfl, rfl⟩
set_option maxHeartbeats 1000000 in
theorem markedSteps_e (W : World) : Calls Tryz.prog 77 #[.slice none 0 0] W fun e w' => e = .returned (.bool true) ∧ w' = W := by
  go_enter Tryz.func77, Tryz.ntmps77
  go_wp2
  go_loopw [3] (fun i wz => i = .int .i64 0 ∧ wz = W) (fun _ _ => 0)
  case atStart => exact ⟨rfl, rfl⟩
  case round =>
    obtain ⟨rfl, rfl⟩ := hrel
    go_wp2
    go_ret
    exact ⟨rfl, rfl⟩
set_option maxHeartbeats 1000000 in
theorem stillRows_e (h : W.cell? ⟨bb, 22, none⟩ = some (.slice none 0 0)) : Calls Tryz.prog 42 #[.pointer (some ⟨bb, 0, none⟩)] W fun e w' => e = .returned (.bool true) ∧ w' = W := by
  go_enter Tryz.func42, Tryz.ntmps42
  go_wp2
  go_loopw [3] (fun i wz => i = .int .i64 0 ∧ wz = W) (fun _ _ => 0)
  case atStart => exact ⟨rfl, rfl⟩
  case round =>
    obtain ⟨rfl, rfl⟩ := hrel
    go_wp2
    go_ret
    exact ⟨rfl, rfl⟩
set_option maxHeartbeats 1000000 in
theorem putRows_e (h : W.cell? ⟨bb, 22, none⟩ = some (.slice none 0 0)) : Calls Tryz.prog 54 #[.pointer (some ⟨bb, 0, none⟩)] W fun e w' => e = .returned (.tuple #[]) ∧ w' = W := by
  go_enter Tryz.func54, Tryz.ntmps54
  go_wp2
  go_loopw [2] (fun i wz => i = .int .i64 0 ∧ wz = W) (fun _ _ => 0)
  case atStart => exact ⟨rfl, rfl⟩
  case round =>
    obtain ⟨rfl, rfl⟩ := hrel
    go_wp2
    go_end0
    exact ⟨rfl, rfl⟩
set_option maxHeartbeats 1000000 in
theorem growRows_e (h : W.cell? ⟨bb, 22, none⟩ = some (.slice none 0 0)) : Calls Tryz.prog 66 #[.pointer (some ⟨bb, 0, none⟩)] W fun e w' => e = .returned (.slice none 0 0) ∧ w' = W := by
  go_enter Tryz.func66, Tryz.ntmps66
  go_wp2
  go_loopw [3, 4] (fun o i wz => o = .slice none 0 0 ∧ i = .int .i64 0 ∧ wz = W) (fun _ _ _ => 0)
  case atStart => exact ⟨rfl, rfl, rfl⟩
  case round =>
    obtain ⟨rfl, rfl, rfl⟩ := hrel
    go_wp2
    go_ret
    exact ⟨rfl, rfl⟩
set_option maxHeartbeats 1000000 in
theorem markedRows_e (W : World) : Calls Tryz.prog 78 #[.slice none 0 0] W fun e w' => e = .returned (.bool true) ∧ w' = W := by
  go_enter Tryz.func78, Tryz.ntmps78
  go_wp2
  go_loopw [3] (fun i wz => i = .int .i64 0 ∧ wz = W) (fun _ _ => 0)
  case atStart => exact ⟨rfl, rfl⟩
  case round =>
    obtain ⟨rfl, rfl⟩ := hrel
    go_wp2
    go_ret
    exact ⟨rfl, rfl⟩
end
set_option maxHeartbeats 40000000 in
set_option maxRecDepth 100000 in
theorem apart_any {base bb : Nat} {w : World} {C : Array Value} {uBytes vBytes : Value} {xBytes yBytes : List Value} {LBytes : List (List tBytes)} {uGrams vGrams : Value} {xGrams yGrams : List Value} {LGrams : List (List tGrams)} (hB : Bb 41 w bb C) (hC : ∀ j, j < 24 → j ≠ 8 → j ≠ 9 → j ≠ 18 → j ≠ 19 → C[j]? = some (.slice none 0 0)) (huBytes : C[8]? = some uBytes) (hvBytes : C[9]? = some vBytes) (hBytes : Kk cBytes 1 5 55 base w uBytes vBytes xBytes yBytes LBytes) (huGrams : C[18]? = some uGrams) (hvGrams : C[19]? = some vGrams) (hGrams : Kk cGrams 4 62 43 base w uGrams vGrams xGrams yGrams LGrams) (hbz : base ≤ w.heap.size) : Calls Tryz.prog 9 #[.pointer (some ⟨bb, 0, none⟩)] w fun e w' => e = .returned (.bool true) ∧ Below base w w' := by
  have hsInts : ∀ V, Bb 41 V bb C → Calls Tryz.prog 31 #[.pointer (some ⟨bb, 0, none⟩)] V fun e w' => e = .returned (.bool true) ∧ w' = V := fun V hV => stillInts_e (by rw [cell_at hV]; exact hC 0 (by decide) (by decide) (by decide) (by decide) (by decide))
  have hpInts : ∀ V, Bb 41 V bb C → Calls Tryz.prog 43 #[.pointer (some ⟨bb, 0, none⟩)] V fun e w' => e = .returned (.tuple #[]) ∧ w' = V := fun V hV => putInts_e (by rw [cell_at hV]; exact hC 0 (by decide) (by decide) (by decide) (by decide) (by decide))
  have hgInts : ∀ V, Bb 41 V bb C → Calls Tryz.prog 55 #[.pointer (some ⟨bb, 0, none⟩)] V fun e w' => e = .returned (.slice none 0 0) ∧ w' = V := fun V hV => growInts_e (by rw [cell_at hV]; exact hC 0 (by decide) (by decide) (by decide) (by decide) (by decide))
  have hmInts := markedInts_e
  have hsChars : ∀ V, Bb 41 V bb C → Calls Tryz.prog 32 #[.pointer (some ⟨bb, 0, none⟩)] V fun e w' => e = .returned (.bool true) ∧ w' = V := fun V hV => stillChars_e (by rw [cell_at hV]; exact hC 2 (by decide) (by decide) (by decide) (by decide) (by decide))
  have hpChars : ∀ V, Bb 41 V bb C → Calls Tryz.prog 44 #[.pointer (some ⟨bb, 0, none⟩)] V fun e w' => e = .returned (.tuple #[]) ∧ w' = V := fun V hV => putChars_e (by rw [cell_at hV]; exact hC 2 (by decide) (by decide) (by decide) (by decide) (by decide))
  have hgChars : ∀ V, Bb 41 V bb C → Calls Tryz.prog 56 #[.pointer (some ⟨bb, 0, none⟩)] V fun e w' => e = .returned (.slice none 0 0) ∧ w' = V := fun V hV => growChars_e (by rw [cell_at hV]; exact hC 2 (by decide) (by decide) (by decide) (by decide) (by decide))
  have hmChars := markedChars_e
  have hsTokens : ∀ V, Bb 41 V bb C → Calls Tryz.prog 33 #[.pointer (some ⟨bb, 0, none⟩)] V fun e w' => e = .returned (.bool true) ∧ w' = V := fun V hV => stillTokens_e (by rw [cell_at hV]; exact hC 4 (by decide) (by decide) (by decide) (by decide) (by decide))
  have hpTokens : ∀ V, Bb 41 V bb C → Calls Tryz.prog 45 #[.pointer (some ⟨bb, 0, none⟩)] V fun e w' => e = .returned (.tuple #[]) ∧ w' = V := fun V hV => putTokens_e (by rw [cell_at hV]; exact hC 4 (by decide) (by decide) (by decide) (by decide) (by decide))
  have hgTokens : ∀ V, Bb 41 V bb C → Calls Tryz.prog 57 #[.pointer (some ⟨bb, 0, none⟩)] V fun e w' => e = .returned (.slice none 0 0) ∧ w' = V := fun V hV => growTokens_e (by rw [cell_at hV]; exact hC 4 (by decide) (by decide) (by decide) (by decide) (by decide))
  have hmTokens := markedTokens_e
  have hsNotices : ∀ V, Bb 41 V bb C → Calls Tryz.prog 34 #[.pointer (some ⟨bb, 0, none⟩)] V fun e w' => e = .returned (.bool true) ∧ w' = V := fun V hV => stillNotices_e (by rw [cell_at hV]; exact hC 6 (by decide) (by decide) (by decide) (by decide) (by decide))
  have hpNotices : ∀ V, Bb 41 V bb C → Calls Tryz.prog 46 #[.pointer (some ⟨bb, 0, none⟩)] V fun e w' => e = .returned (.tuple #[]) ∧ w' = V := fun V hV => putNotices_e (by rw [cell_at hV]; exact hC 6 (by decide) (by decide) (by decide) (by decide) (by decide))
  have hgNotices : ∀ V, Bb 41 V bb C → Calls Tryz.prog 58 #[.pointer (some ⟨bb, 0, none⟩)] V fun e w' => e = .returned (.slice none 0 0) ∧ w' = V := fun V hV => growNotices_e (by rw [cell_at hV]; exact hC 6 (by decide) (by decide) (by decide) (by decide) (by decide))
  have hmNotices := markedNotices_e
  have hsSets : ∀ V, Bb 41 V bb C → Calls Tryz.prog 36 #[.pointer (some ⟨bb, 0, none⟩)] V fun e w' => e = .returned (.bool true) ∧ w' = V := fun V hV => stillSets_e (by rw [cell_at hV]; exact hC 10 (by decide) (by decide) (by decide) (by decide) (by decide))
  have hpSets : ∀ V, Bb 41 V bb C → Calls Tryz.prog 48 #[.pointer (some ⟨bb, 0, none⟩)] V fun e w' => e = .returned (.tuple #[]) ∧ w' = V := fun V hV => putSets_e (by rw [cell_at hV]; exact hC 10 (by decide) (by decide) (by decide) (by decide) (by decide))
  have hgSets : ∀ V, Bb 41 V bb C → Calls Tryz.prog 60 #[.pointer (some ⟨bb, 0, none⟩)] V fun e w' => e = .returned (.slice none 0 0) ∧ w' = V := fun V hV => growSets_e (by rw [cell_at hV]; exact hC 10 (by decide) (by decide) (by decide) (by decide) (by decide))
  have hmSets := markedSets_e
  have hsEvents : ∀ V, Bb 41 V bb C → Calls Tryz.prog 37 #[.pointer (some ⟨bb, 0, none⟩)] V fun e w' => e = .returned (.bool true) ∧ w' = V := fun V hV => stillEvents_e (by rw [cell_at hV]; exact hC 12 (by decide) (by decide) (by decide) (by decide) (by decide))
  have hpEvents : ∀ V, Bb 41 V bb C → Calls Tryz.prog 49 #[.pointer (some ⟨bb, 0, none⟩)] V fun e w' => e = .returned (.tuple #[]) ∧ w' = V := fun V hV => putEvents_e (by rw [cell_at hV]; exact hC 12 (by decide) (by decide) (by decide) (by decide) (by decide))
  have hgEvents : ∀ V, Bb 41 V bb C → Calls Tryz.prog 61 #[.pointer (some ⟨bb, 0, none⟩)] V fun e w' => e = .returned (.slice none 0 0) ∧ w' = V := fun V hV => growEvents_e (by rw [cell_at hV]; exact hC 12 (by decide) (by decide) (by decide) (by decide) (by decide))
  have hmEvents := markedEvents_e
  have hsErrs : ∀ V, Bb 41 V bb C → Calls Tryz.prog 38 #[.pointer (some ⟨bb, 0, none⟩)] V fun e w' => e = .returned (.bool true) ∧ w' = V := fun V hV => stillErrs_e (by rw [cell_at hV]; exact hC 14 (by decide) (by decide) (by decide) (by decide) (by decide))
  have hpErrs : ∀ V, Bb 41 V bb C → Calls Tryz.prog 50 #[.pointer (some ⟨bb, 0, none⟩)] V fun e w' => e = .returned (.tuple #[]) ∧ w' = V := fun V hV => putErrs_e (by rw [cell_at hV]; exact hC 14 (by decide) (by decide) (by decide) (by decide) (by decide))
  have hgErrs : ∀ V, Bb 41 V bb C → Calls Tryz.prog 62 #[.pointer (some ⟨bb, 0, none⟩)] V fun e w' => e = .returned (.slice none 0 0) ∧ w' = V := fun V hV => growErrs_e (by rw [cell_at hV]; exact hC 14 (by decide) (by decide) (by decide) (by decide) (by decide))
  have hmErrs := markedErrs_e
  have hsOuts : ∀ V, Bb 41 V bb C → Calls Tryz.prog 39 #[.pointer (some ⟨bb, 0, none⟩)] V fun e w' => e = .returned (.bool true) ∧ w' = V := fun V hV => stillOuts_e (by rw [cell_at hV]; exact hC 16 (by decide) (by decide) (by decide) (by decide) (by decide))
  have hpOuts : ∀ V, Bb 41 V bb C → Calls Tryz.prog 51 #[.pointer (some ⟨bb, 0, none⟩)] V fun e w' => e = .returned (.tuple #[]) ∧ w' = V := fun V hV => putOuts_e (by rw [cell_at hV]; exact hC 16 (by decide) (by decide) (by decide) (by decide) (by decide))
  have hgOuts : ∀ V, Bb 41 V bb C → Calls Tryz.prog 63 #[.pointer (some ⟨bb, 0, none⟩)] V fun e w' => e = .returned (.slice none 0 0) ∧ w' = V := fun V hV => growOuts_e (by rw [cell_at hV]; exact hC 16 (by decide) (by decide) (by decide) (by decide) (by decide))
  have hmOuts := markedOuts_e
  have hsSteps : ∀ V, Bb 41 V bb C → Calls Tryz.prog 41 #[.pointer (some ⟨bb, 0, none⟩)] V fun e w' => e = .returned (.bool true) ∧ w' = V := fun V hV => stillSteps_e (by rw [cell_at hV]; exact hC 20 (by decide) (by decide) (by decide) (by decide) (by decide))
  have hpSteps : ∀ V, Bb 41 V bb C → Calls Tryz.prog 53 #[.pointer (some ⟨bb, 0, none⟩)] V fun e w' => e = .returned (.tuple #[]) ∧ w' = V := fun V hV => putSteps_e (by rw [cell_at hV]; exact hC 20 (by decide) (by decide) (by decide) (by decide) (by decide))
  have hgSteps : ∀ V, Bb 41 V bb C → Calls Tryz.prog 65 #[.pointer (some ⟨bb, 0, none⟩)] V fun e w' => e = .returned (.slice none 0 0) ∧ w' = V := fun V hV => growSteps_e (by rw [cell_at hV]; exact hC 20 (by decide) (by decide) (by decide) (by decide) (by decide))
  have hmSteps := markedSteps_e
  have hsRows : ∀ V, Bb 41 V bb C → Calls Tryz.prog 42 #[.pointer (some ⟨bb, 0, none⟩)] V fun e w' => e = .returned (.bool true) ∧ w' = V := fun V hV => stillRows_e (by rw [cell_at hV]; exact hC 22 (by decide) (by decide) (by decide) (by decide) (by decide))
  have hpRows : ∀ V, Bb 41 V bb C → Calls Tryz.prog 54 #[.pointer (some ⟨bb, 0, none⟩)] V fun e w' => e = .returned (.tuple #[]) ∧ w' = V := fun V hV => putRows_e (by rw [cell_at hV]; exact hC 22 (by decide) (by decide) (by decide) (by decide) (by decide))
  have hgRows : ∀ V, Bb 41 V bb C → Calls Tryz.prog 66 #[.pointer (some ⟨bb, 0, none⟩)] V fun e w' => e = .returned (.slice none 0 0) ∧ w' = V := fun V hV => growRows_e (by rw [cell_at hV]; exact hC 22 (by decide) (by decide) (by decide) (by decide) (by decide))
  have hmRows := markedRows_e
  have hst0 := stillBytes_any hB huBytes hvBytes hBytes.kl hBytes.cl
  go_enter Tryz.func9, Tryz.ntmps9
  go_wp2_with (first | (go_at_call 31; (with_reducible refine (hsInts _ (by assumption)).mono ?_); rintro e vv ⟨rfl, hvv⟩; obtain rfl := hvv.symm) | (go_at_call 43; (with_reducible refine (hpInts _ (by assumption)).mono ?_); rintro e vv ⟨rfl, hvv⟩; obtain rfl := hvv.symm) | (go_at_call 55; (with_reducible refine (hgInts _ (by assumption)).mono ?_); rintro e vv ⟨rfl, hvv⟩; obtain rfl := hvv.symm) | (go_at_call 67; (with_reducible refine (hmInts _).mono ?_); rintro e vv ⟨rfl, hvv⟩; obtain rfl := hvv.symm) | (go_at_call 32; (with_reducible refine (hsChars _ (by assumption)).mono ?_); rintro e vv ⟨rfl, hvv⟩; obtain rfl := hvv.symm) | (go_at_call 44; (with_reducible refine (hpChars _ (by assumption)).mono ?_); rintro e vv ⟨rfl, hvv⟩; obtain rfl := hvv.symm) | (go_at_call 56; (with_reducible refine (hgChars _ (by assumption)).mono ?_); rintro e vv ⟨rfl, hvv⟩; obtain rfl := hvv.symm) | (go_at_call 68; (with_reducible refine (hmChars _).mono ?_); rintro e vv ⟨rfl, hvv⟩; obtain rfl := hvv.symm) | (go_at_call 33; (with_reducible refine (hsTokens _ (by assumption)).mono ?_); rintro e vv ⟨rfl, hvv⟩; obtain rfl := hvv.symm) | (go_at_call 45; (with_reducible refine (hpTokens _ (by assumption)).mono ?_); rintro e vv ⟨rfl, hvv⟩; obtain rfl := hvv.symm) | (go_at_call 57; (with_reducible refine (hgTokens _ (by assumption)).mono ?_); rintro e vv ⟨rfl, hvv⟩; obtain rfl := hvv.symm) | (go_at_call 69; (with_reducible refine (hmTokens _).mono ?_); rintro e vv ⟨rfl, hvv⟩; obtain rfl := hvv.symm) | (go_at_call 34; (with_reducible refine (hsNotices _ (by assumption)).mono ?_); rintro e vv ⟨rfl, hvv⟩; obtain rfl := hvv.symm) | (go_at_call 46; (with_reducible refine (hpNotices _ (by assumption)).mono ?_); rintro e vv ⟨rfl, hvv⟩; obtain rfl := hvv.symm) | (go_at_call 58; (with_reducible refine (hgNotices _ (by assumption)).mono ?_); rintro e vv ⟨rfl, hvv⟩; obtain rfl := hvv.symm) | (go_at_call 70; (with_reducible refine (hmNotices _).mono ?_); rintro e vv ⟨rfl, hvv⟩; obtain rfl := hvv.symm) | (go_at_call 36; (with_reducible refine (hsSets _ (by assumption)).mono ?_); rintro e vv ⟨rfl, hvv⟩; obtain rfl := hvv.symm) | (go_at_call 48; (with_reducible refine (hpSets _ (by assumption)).mono ?_); rintro e vv ⟨rfl, hvv⟩; obtain rfl := hvv.symm) | (go_at_call 60; (with_reducible refine (hgSets _ (by assumption)).mono ?_); rintro e vv ⟨rfl, hvv⟩; obtain rfl := hvv.symm) | (go_at_call 72; (with_reducible refine (hmSets _).mono ?_); rintro e vv ⟨rfl, hvv⟩; obtain rfl := hvv.symm) | (go_at_call 37; (with_reducible refine (hsEvents _ (by assumption)).mono ?_); rintro e vv ⟨rfl, hvv⟩; obtain rfl := hvv.symm) | (go_at_call 49; (with_reducible refine (hpEvents _ (by assumption)).mono ?_); rintro e vv ⟨rfl, hvv⟩; obtain rfl := hvv.symm) | (go_at_call 61; (with_reducible refine (hgEvents _ (by assumption)).mono ?_); rintro e vv ⟨rfl, hvv⟩; obtain rfl := hvv.symm) | (go_at_call 73; (with_reducible refine (hmEvents _).mono ?_); rintro e vv ⟨rfl, hvv⟩; obtain rfl := hvv.symm) | (go_at_call 38; (with_reducible refine (hsErrs _ (by assumption)).mono ?_); rintro e vv ⟨rfl, hvv⟩; obtain rfl := hvv.symm) | (go_at_call 50; (with_reducible refine (hpErrs _ (by assumption)).mono ?_); rintro e vv ⟨rfl, hvv⟩; obtain rfl := hvv.symm) | (go_at_call 62; (with_reducible refine (hgErrs _ (by assumption)).mono ?_); rintro e vv ⟨rfl, hvv⟩; obtain rfl := hvv.symm) | (go_at_call 74; (with_reducible refine (hmErrs _).mono ?_); rintro e vv ⟨rfl, hvv⟩; obtain rfl := hvv.symm) | (go_at_call 39; (with_reducible refine (hsOuts _ (by assumption)).mono ?_); rintro e vv ⟨rfl, hvv⟩; obtain rfl := hvv.symm) | (go_at_call 51; (with_reducible refine (hpOuts _ (by assumption)).mono ?_); rintro e vv ⟨rfl, hvv⟩; obtain rfl := hvv.symm) | (go_at_call 63; (with_reducible refine (hgOuts _ (by assumption)).mono ?_); rintro e vv ⟨rfl, hvv⟩; obtain rfl := hvv.symm) | (go_at_call 75; (with_reducible refine (hmOuts _).mono ?_); rintro e vv ⟨rfl, hvv⟩; obtain rfl := hvv.symm) | (go_at_call 41; (with_reducible refine (hsSteps _ (by assumption)).mono ?_); rintro e vv ⟨rfl, hvv⟩; obtain rfl := hvv.symm) | (go_at_call 53; (with_reducible refine (hpSteps _ (by assumption)).mono ?_); rintro e vv ⟨rfl, hvv⟩; obtain rfl := hvv.symm) | (go_at_call 65; (with_reducible refine (hgSteps _ (by assumption)).mono ?_); rintro e vv ⟨rfl, hvv⟩; obtain rfl := hvv.symm) | (go_at_call 77; (with_reducible refine (hmSteps _).mono ?_); rintro e vv ⟨rfl, hvv⟩; obtain rfl := hvv.symm) | (go_at_call 42; (with_reducible refine (hsRows _ (by assumption)).mono ?_); rintro e vv ⟨rfl, hvv⟩; obtain rfl := hvv.symm) | (go_at_call 54; (with_reducible refine (hpRows _ (by assumption)).mono ?_); rintro e vv ⟨rfl, hvv⟩; obtain rfl := hvv.symm) | (go_at_call 66; (with_reducible refine (hgRows _ (by assumption)).mono ?_); rintro e vv ⟨rfl, hvv⟩; obtain rfl := hvv.symm) | (go_at_call 78; (with_reducible refine (hmRows _).mono ?_); rintro e vv ⟨rfl, hvv⟩; obtain rfl := hvv.symm) | (go_at_call 35; (with_reducible refine hst0.mono ?_); rintro e z0 ⟨rfl, hb0⟩; have hB0 := hB.carry hb0; have hBytes0 := hBytes.carry hb0; have hGrams0 := hGrams.carry hb0; have HB0 : Hid (Below base w z0) := (hb0.mono (Nat.le_trans hbz (Nat.le_refl _))); have hst1 := stillGrams_any hB0 huGrams hvGrams hGrams0.kl hGrams0.cl; clear hB) | (go_at_call 40; (with_reducible refine hst1.mono ?_); rintro e z1 ⟨rfl, hb1⟩; have hB1 := hB0.carry hb1; have hBytes1 := hBytes0.carry hb1; have hGrams1 := hGrams0.carry hb1; have HB1 : Hid (Below base w z1) := HB0.out.trans (hb1.mono (Nat.le_trans hbz HB0.out.size)); have hst2 := putBytes_any hB1 huBytes hBytes1.kl; clear hB0) | (go_at_call 47; (with_reducible refine hst2.mono ?_); rintro e z2 ⟨rfl, ⟨L2, hn2, hup2⟩, hb2⟩; have hB2 := hB1.bxt hBytes1.kl hb2 (by decide); have hGrams2 := hGrams1.kl.bxt hBytes1.kl hb2 (by decide) (by decide); have HB2 : Hid (Below base w z2) := HB1.out.trans (hb2.low hBytes1.kl (Nat.le_trans hbz HB1.out.size)); have HMBytes : Hid (Mkd mBytes L2) := hup2.all; have hst3 := putGrams_any hB2 huGrams hGrams2; clear hB1) | (go_at_call 52; (with_reducible refine hst3.mono ?_); rintro e z3 ⟨rfl, ⟨L3, hn3, hup3⟩, hb3⟩; have hB3 := hB2.bxt hGrams2 hb3 (by decide); have hBytes3 := hn2.bxt hGrams2 hb3 (by decide) (by decide); have HB3 : Hid (Below base w z3) := HB2.out.trans (hb3.low hGrams2 (Nat.le_trans hbz HB2.out.size)); have HMGrams : Hid (Mkd mGrams L3) := hup3.all; have hst4 := growBytes_any hB3 huBytes hBytes3 HMBytes.out (Nat.le_trans hbz HB3.out.size); clear hB2) | (go_at_call 59; (with_reducible refine hst4.mono ?_); rintro e z4 ⟨uoBytes, rfl, OBytes, hro4Bytes, hgk4Bytes, hn4, hb4⟩; have hB4 := hB3.bxt hBytes3 hb4 (by decide); have hGrams4 := hn3.bxt hBytes3 hb4 (by decide) (by decide); have HB4 : Hid (Below base w z4) := HB3.out.trans (hb4.low hBytes3 (Nat.le_trans hbz HB3.out.size)); have hst5 := growGrams_any hB4 huGrams hGrams4 HMGrams.out (Nat.le_trans hbz HB4.out.size); clear hB3) | (go_at_call 64; (with_reducible refine hst5.mono ?_); rintro e z5 ⟨uoGrams, rfl, OGrams, hro5Grams, hgk5Grams, hn5, hb5⟩; have hB5 := hB4.bxt hGrams4 hb5 (by decide); have hBytes5 := hn4.bxt hGrams4 hb5 (by decide) (by decide); have hro5Bytes := row_bxt hro4Bytes hGrams4 hb5 (by decide); have hgk5Bytes := hgk4Bytes.bxt hGrams4 hb5 (by decide); have HB5 : Hid (Below base w z5) := HB4.out.trans (hb5.low hGrams4 (Nat.le_trans hbz HB4.out.size)); have hst6 := markedBytes_any hro5Bytes hgk5Bytes.mkn hBytes5.k; have c5_0 : z5.cell? ⟨bb, 0, none⟩ = some (.slice none 0 0) := (by rw [cell_at hB5]; exact hC 0 (by decide) (by decide) (by decide) (by decide) (by decide)); have c5_2 : z5.cell? ⟨bb, 2, none⟩ = some (.slice none 0 0) := (by rw [cell_at hB5]; exact hC 2 (by decide) (by decide) (by decide) (by decide) (by decide)); have c5_4 : z5.cell? ⟨bb, 4, none⟩ = some (.slice none 0 0) := (by rw [cell_at hB5]; exact hC 4 (by decide) (by decide) (by decide) (by decide) (by decide)); have c5_6 : z5.cell? ⟨bb, 6, none⟩ = some (.slice none 0 0) := (by rw [cell_at hB5]; exact hC 6 (by decide) (by decide) (by decide) (by decide) (by decide)); clear hB4) | (go_at_call 71; (with_reducible refine hst6.mono ?_); rintro e z6 ⟨rfl, hb6⟩; clear hst6; have hB6 := hB5.carry hb6; have hBytes6 := hBytes5.carry hb6; have hro6Bytes := row_below hro5Bytes hb6; have hgk6Bytes := hgk5Bytes.carry hb6; have hGrams6 := hn5.carry hb6; have hro6Grams := row_below hro5Grams hb6; have hgk6Grams := hgk5Grams.carry hb6; have HB6 : Hid (Below base w z6) := HB5.out.trans (hb6.mono (Nat.le_trans hbz HB5.out.size)); have hst7 := markedBytes_any hBytes6.row (Mkn.of hBytes6 HMBytes.out) hBytes6.k; have c6_8 : z6.cell? ⟨bb, 8, none⟩ = some uBytes := (by rw [cell_at hB6]; exact huBytes); clear hB5) | (go_at_call 71; (with_reducible refine hst7.mono ?_); rintro e z7 ⟨rfl, hb7⟩; clear hst7; have hB7 := hB6.carry hb7; have hBytes7 := hBytes6.carry hb7; have hro7Bytes := row_below hro6Bytes hb7; have hgk7Bytes := hgk6Bytes.carry hb7; have hGrams7 := hGrams6.carry hb7; have hro7Grams := row_below hro6Grams hb7; have hgk7Grams := hgk6Grams.carry hb7; have HB7 : Hid (Below base w z7) := HB6.out.trans (hb7.mono (Nat.le_trans hbz HB6.out.size)); have hst8 := markedGrams_any hro7Grams hgk7Grams.mkn hGrams7.k; have c7_10 : z7.cell? ⟨bb, 10, none⟩ = some (.slice none 0 0) := (by rw [cell_at hB7]; exact hC 10 (by decide) (by decide) (by decide) (by decide) (by decide)); have c7_12 : z7.cell? ⟨bb, 12, none⟩ = some (.slice none 0 0) := (by rw [cell_at hB7]; exact hC 12 (by decide) (by decide) (by decide) (by decide) (by decide)); have c7_14 : z7.cell? ⟨bb, 14, none⟩ = some (.slice none 0 0) := (by rw [cell_at hB7]; exact hC 14 (by decide) (by decide) (by decide) (by decide) (by decide)); have c7_16 : z7.cell? ⟨bb, 16, none⟩ = some (.slice none 0 0) := (by rw [cell_at hB7]; exact hC 16 (by decide) (by decide) (by decide) (by decide) (by decide)); clear hB6) | (go_at_call 76; (with_reducible refine hst8.mono ?_); rintro e z8 ⟨rfl, hb8⟩; clear hst8; have hB8 := hB7.carry hb8; have hBytes8 := hBytes7.carry hb8; have hro8Bytes := row_below hro7Bytes hb8; have hgk8Bytes := hgk7Bytes.carry hb8; have hGrams8 := hGrams7.carry hb8; have hro8Grams := row_below hro7Grams hb8; have hgk8Grams := hgk7Grams.carry hb8; have HB8 : Hid (Below base w z8) := HB7.out.trans (hb8.mono (Nat.le_trans hbz HB7.out.size)); have hst9 := markedGrams_any hGrams8.row (Mkn.of hGrams8 HMGrams.out) hGrams8.k; have c8_18 : z8.cell? ⟨bb, 18, none⟩ = some uGrams := (by rw [cell_at hB8]; exact huGrams); clear hB7) | (go_at_call 76; (with_reducible refine hst9.mono ?_); rintro e z9 ⟨rfl, hb9⟩; clear hst9; have hB9 := hB8.carry hb9; have hBytes9 := hBytes8.carry hb9; have hro9Bytes := row_below hro8Bytes hb9; have hgk9Bytes := hgk8Bytes.carry hb9; have hGrams9 := hGrams8.carry hb9; have hro9Grams := row_below hro8Grams hb9; have hgk9Grams := hgk8Grams.carry hb9; have HB9 : Hid (Below base w z9) := HB8.out.trans (hb9.mono (Nat.le_trans hbz HB8.out.size)); have c9_20 : z9.cell? ⟨bb, 20, none⟩ = some (.slice none 0 0) := (by rw [cell_at hB9]; exact hC 20 (by decide) (by decide) (by decide) (by decide) (by decide)); have c9_22 : z9.cell? ⟨bb, 22, none⟩ = some (.slice none 0 0) := (by rw [cell_at hB9]; exact hC 22 (by decide) (by decide) (by decide) (by decide) (by decide)); clear hB8))
  go_ret
  exact ⟨rfl, HB9.out⟩
end Go.Proofs.YtjfbnikbmadgkaaGreat.Kel
