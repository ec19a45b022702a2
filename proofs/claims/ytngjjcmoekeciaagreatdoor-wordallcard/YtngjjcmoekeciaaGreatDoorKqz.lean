/- earshotbook's Apart: words and rows of words. -/
import Derived.Test.YtngjjcmoekeciaaGreatDoorKqRd
namespace Go.Proofs.YtngjjcmoekeciaaGreatDoor.Kel
open Go.RowKit Go.Shelf Go.Lib
set_option linter.unusedVariables false

theorem Kl.bxq {α β : Type} {c : α → List Value} {s : Nat} {T TT : TypeId} {base : Nat} {W V : World} {u : Value} {x : List Value} {L : List (List α)} {c' : β → List Value} {s' : Nat} {T' TT' : TypeId} {u' : Value} {x' : List Value} {L' : List (List β)} {base' : Nat} (h : Kl c s T TT base W u x L) (h' : Kq c' s' T' TT' base' W u' x' L') (hb : Bx x' W V) (h1 : T ≠ T') (h2 : TT ≠ T') : Kl c s T TT base V u x L :=
  h.bx hb (fun g hg => by
    obtain ⟨_, cur, q⟩ := rowBlk h.row g hg
    exact h'.px q h2) (fun i z g hz hg => by
    obtain ⟨cur, q⟩ := h.tyx hz hg
    exact h'.px q h1)
theorem Bx.lowq {α : Type} {c : α → List Value} {s : Nat} {T TT : TypeId} {base : Nat} {W V : World} {u : Value} {x : List Value} {L : List (List α)} (hb : Bx x W V) (h : Kq c s T TT base W u x L) : base ≤ W.heap.size → Below base W V := fun hz => ⟨hb.os, hb.tape, hb.output, hb.size, fun k hk => hb.block k (by omega) (fun i z hz e => by
  have := (h.ltx hz e).1
  omega)⟩
theorem MkdR.bx {L : List (List tRows)} {lo : Nat} {W V : World} {x : List Value} (H : MkdR L lo W) (hb : Bx x W V) (hx : ∀ (i : Nat) (z : Value) (g : Nat), x[i]? = some z → z.ownBlock = some g → g < lo) : MkdR L lo V := fun j l hl k h e => by
  obtain ⟨g, e1, e2, e3⟩ := H j l hl k h e
  refine ⟨g, e1, e2, (hb.block g (lt_at e3) (fun i z hz e9 => ?_)).trans e3⟩
  have := hx i z g hz e9
  omega
section
variable {W : World} {bb : Nat}
set_option maxHeartbeats 1000000 in
theorem stillInts_e (h : W.cell? ⟨bb, 0, none⟩ = some (.slice none 0 0)) : Calls Tryz.prog 24 #[.pointer (some ⟨bb, 0, none⟩)] W fun e w' => e = .returned (.bool true) ∧ w' = W := by
  go_enter Tryz.func24, Tryz.ntmps24
  go_wp2
  go_loopw [3] (fun i wz => i = .int .i64 0 ∧ wz = W) (fun _ _ => 0)
  case atStart => exact ⟨rfl, rfl⟩
  case round =>
    obtain ⟨rfl, rfl⟩ := hrel
    go_wp2
    go_ret
    exact ⟨rfl, rfl⟩
set_option maxHeartbeats 1000000 in
theorem putInts_e (h : W.cell? ⟨bb, 0, none⟩ = some (.slice none 0 0)) : Calls Tryz.prog 36 #[.pointer (some ⟨bb, 0, none⟩)] W fun e w' => e = .returned (.tuple #[]) ∧ w' = W := by
  go_enter Tryz.func36, Tryz.ntmps36
  go_wp2
  go_loopw [2] (fun i wz => i = .int .i64 0 ∧ wz = W) (fun _ _ => 0)
  case atStart => exact ⟨rfl, rfl⟩
  case round =>
    obtain ⟨rfl, rfl⟩ := hrel
    go_wp2
    go_end0
    exact ⟨rfl, rfl⟩
set_option maxHeartbeats 1000000 in
theorem growInts_e (h : W.cell? ⟨bb, 0, none⟩ = some (.slice none 0 0)) : Calls Tryz.prog 48 #[.pointer (some ⟨bb, 0, none⟩)] W fun e w' => e = .returned (.slice none 0 0) ∧ w' = W := by
  go_enter Tryz.func48, Tryz.ntmps48
  go_wp2
  go_loopw [3, 4] (fun o i wz => o = .slice none 0 0 ∧ i = .int .i64 0 ∧ wz = W) (fun _ _ _ => 0)
  case atStart => exact ⟨rfl, rfl, rfl⟩
  case round =>
    obtain ⟨rfl, rfl, rfl⟩ := hrel
    go_wp2
    go_ret
    exact ⟨rfl, rfl⟩
set_option maxHeartbeats 1000000 in
theorem markedInts_e (W : World) : Calls Tryz.prog 60 #[.slice none 0 0] W fun e w' => e = .returned (.bool true) ∧ w' = W := by
  go_enter Tryz.func60, Tryz.ntmps60
  go_wp2
  go_loopw [3] (fun i wz => i = .int .i64 0 ∧ wz = W) (fun _ _ => 0)
  case atStart => exact ⟨rfl, rfl⟩
  case round =>
    obtain ⟨rfl, rfl⟩ := hrel
    go_wp2
    go_ret
    exact ⟨rfl, rfl⟩
set_option maxHeartbeats 1000000 in
theorem stillChars_e (h : W.cell? ⟨bb, 2, none⟩ = some (.slice none 0 0)) : Calls Tryz.prog 25 #[.pointer (some ⟨bb, 0, none⟩)] W fun e w' => e = .returned (.bool true) ∧ w' = W := by
  go_enter Tryz.func25, Tryz.ntmps25
  go_wp2
  go_loopw [3] (fun i wz => i = .int .i64 0 ∧ wz = W) (fun _ _ => 0)
  case atStart => exact ⟨rfl, rfl⟩
  case round =>
    obtain ⟨rfl, rfl⟩ := hrel
    go_wp2
    go_ret
    exact ⟨rfl, rfl⟩
set_option maxHeartbeats 1000000 in
theorem putChars_e (h : W.cell? ⟨bb, 2, none⟩ = some (.slice none 0 0)) : Calls Tryz.prog 37 #[.pointer (some ⟨bb, 0, none⟩)] W fun e w' => e = .returned (.tuple #[]) ∧ w' = W := by
  go_enter Tryz.func37, Tryz.ntmps37
  go_wp2
  go_loopw [2] (fun i wz => i = .int .i64 0 ∧ wz = W) (fun _ _ => 0)
  case atStart => exact ⟨rfl, rfl⟩
  case round =>
    obtain ⟨rfl, rfl⟩ := hrel
    go_wp2
    go_end0
    exact ⟨rfl, rfl⟩
set_option maxHeartbeats 1000000 in
theorem growChars_e (h : W.cell? ⟨bb, 2, none⟩ = some (.slice none 0 0)) : Calls Tryz.prog 49 #[.pointer (some ⟨bb, 0, none⟩)] W fun e w' => e = .returned (.slice none 0 0) ∧ w' = W := by
  go_enter Tryz.func49, Tryz.ntmps49
  go_wp2
  go_loopw [3, 4] (fun o i wz => o = .slice none 0 0 ∧ i = .int .i64 0 ∧ wz = W) (fun _ _ _ => 0)
  case atStart => exact ⟨rfl, rfl, rfl⟩
  case round =>
    obtain ⟨rfl, rfl, rfl⟩ := hrel
    go_wp2
    go_ret
    exact ⟨rfl, rfl⟩
set_option maxHeartbeats 1000000 in
theorem markedChars_e (W : World) : Calls Tryz.prog 61 #[.slice none 0 0] W fun e w' => e = .returned (.bool true) ∧ w' = W := by
  go_enter Tryz.func61, Tryz.ntmps61
  go_wp2
  go_loopw [3] (fun i wz => i = .int .i64 0 ∧ wz = W) (fun _ _ => 0)
  case atStart => exact ⟨rfl, rfl⟩
  case round =>
    obtain ⟨rfl, rfl⟩ := hrel
    go_wp2
    go_ret
    exact ⟨rfl, rfl⟩
set_option maxHeartbeats 1000000 in
theorem stillNotices_e (h : W.cell? ⟨bb, 6, none⟩ = some (.slice none 0 0)) : Calls Tryz.prog 27 #[.pointer (some ⟨bb, 0, none⟩)] W fun e w' => e = .returned (.bool true) ∧ w' = W := by
  go_enter Tryz.func27, Tryz.ntmps27
  go_wp2
  go_loopw [3] (fun i wz => i = .int .i64 0 ∧ wz = W) (fun _ _ => 0)
  case atStart => exact ⟨rfl, rfl⟩
  case round =>
    obtain ⟨rfl, rfl⟩ := hrel
    go_wp2
    go_ret
    exact ⟨rfl, rfl⟩
set_option maxHeartbeats 1000000 in
theorem putNotices_e (h : W.cell? ⟨bb, 6, none⟩ = some (.slice none 0 0)) : Calls Tryz.prog 39 #[.pointer (some ⟨bb, 0, none⟩)] W fun e w' => e = .returned (.tuple #[]) ∧ w' = W := by
  go_enter Tryz.func39, Tryz.ntmps39
  go_wp2
  go_loopw [2] (fun i wz => i = .int .i64 0 ∧ wz = W) (fun _ _ => 0)
  case atStart => exact ⟨rfl, rfl⟩
  case round =>
    obtain ⟨rfl, rfl⟩ := hrel
    go_wp2
    go_end0
    exact ⟨rfl, rfl⟩
set_option maxHeartbeats 1000000 in
theorem growNotices_e (h : W.cell? ⟨bb, 6, none⟩ = some (.slice none 0 0)) : Calls Tryz.prog 51 #[.pointer (some ⟨bb, 0, none⟩)] W fun e w' => e = .returned (.slice none 0 0) ∧ w' = W := by
  go_enter Tryz.func51, Tryz.ntmps51
  go_wp2
  go_loopw [3, 4] (fun o i wz => o = .slice none 0 0 ∧ i = .int .i64 0 ∧ wz = W) (fun _ _ _ => 0)
  case atStart => exact ⟨rfl, rfl, rfl⟩
  case round =>
    obtain ⟨rfl, rfl, rfl⟩ := hrel
    go_wp2
    go_ret
    exact ⟨rfl, rfl⟩
set_option maxHeartbeats 1000000 in
theorem markedNotices_e (W : World) : Calls Tryz.prog 63 #[.slice none 0 0] W fun e w' => e = .returned (.bool true) ∧ w' = W := by
  go_enter Tryz.func63, Tryz.ntmps63
  go_wp2
  go_loopw [3] (fun i wz => i = .int .i64 0 ∧ wz = W) (fun _ _ => 0)
  case atStart => exact ⟨rfl, rfl⟩
  case round =>
    obtain ⟨rfl, rfl⟩ := hrel
    go_wp2
    go_ret
    exact ⟨rfl, rfl⟩
set_option maxHeartbeats 1000000 in
theorem stillBytes_e (h : W.cell? ⟨bb, 8, none⟩ = some (.slice none 0 0)) : Calls Tryz.prog 28 #[.pointer (some ⟨bb, 0, none⟩)] W fun e w' => e = .returned (.bool true) ∧ w' = W := by
  go_enter Tryz.func28, Tryz.ntmps28
  go_wp2
  go_loopw [3] (fun i wz => i = .int .i64 0 ∧ wz = W) (fun _ _ => 0)
  case atStart => exact ⟨rfl, rfl⟩
  case round =>
    obtain ⟨rfl, rfl⟩ := hrel
    go_wp2
    go_ret
    exact ⟨rfl, rfl⟩
set_option maxHeartbeats 1000000 in
theorem putBytes_e (h : W.cell? ⟨bb, 8, none⟩ = some (.slice none 0 0)) : Calls Tryz.prog 40 #[.pointer (some ⟨bb, 0, none⟩)] W fun e w' => e = .returned (.tuple #[]) ∧ w' = W := by
  go_enter Tryz.func40, Tryz.ntmps40
  go_wp2
  go_loopw [2] (fun i wz => i = .int .i64 0 ∧ wz = W) (fun _ _ => 0)
  case atStart => exact ⟨rfl, rfl⟩
  case round =>
    obtain ⟨rfl, rfl⟩ := hrel
    go_wp2
    go_end0
    exact ⟨rfl, rfl⟩
set_option maxHeartbeats 1000000 in
theorem growBytes_e (h : W.cell? ⟨bb, 8, none⟩ = some (.slice none 0 0)) : Calls Tryz.prog 52 #[.pointer (some ⟨bb, 0, none⟩)] W fun e w' => e = .returned (.slice none 0 0) ∧ w' = W := by
  go_enter Tryz.func52, Tryz.ntmps52
  go_wp2
  go_loopw [3, 4] (fun o i wz => o = .slice none 0 0 ∧ i = .int .i64 0 ∧ wz = W) (fun _ _ _ => 0)
  case atStart => exact ⟨rfl, rfl, rfl⟩
  case round =>
    obtain ⟨rfl, rfl, rfl⟩ := hrel
    go_wp2
    go_ret
    exact ⟨rfl, rfl⟩
set_option maxHeartbeats 1000000 in
theorem markedBytes_e (W : World) : Calls Tryz.prog 64 #[.slice none 0 0] W fun e w' => e = .returned (.bool true) ∧ w' = W := by
  go_enter Tryz.func64, Tryz.ntmps64
  go_wp2
  go_loopw [3] (fun i wz => i = .int .i64 0 ∧ wz = W) (fun _ _ => 0)
  case atStart => exact ⟨rfl, rfl⟩
  case round =>
    obtain ⟨rfl, rfl⟩ := hrel
    go_wp2
    go_ret
    exact ⟨rfl, rfl⟩
set_option maxHeartbeats 1000000 in
theorem stillSets_e (h : W.cell? ⟨bb, 10, none⟩ = some (.slice none 0 0)) : Calls Tryz.prog 29 #[.pointer (some ⟨bb, 0, none⟩)] W fun e w' => e = .returned (.bool true) ∧ w' = W := by
  go_enter Tryz.func29, Tryz.ntmps29
  go_wp2
  go_loopw [3] (fun i wz => i = .int .i64 0 ∧ wz = W) (fun _ _ => 0)
  case atStart => exact ⟨rfl, rfl⟩
  case round =>
    obtain ⟨rfl, rfl⟩ := hrel
    go_wp2
    go_ret
    exact ⟨rfl, rfl⟩
set_option maxHeartbeats 1000000 in
theorem putSets_e (h : W.cell? ⟨bb, 10, none⟩ = some (.slice none 0 0)) : Calls Tryz.prog 41 #[.pointer (some ⟨bb, 0, none⟩)] W fun e w' => e = .returned (.tuple #[]) ∧ w' = W := by
  go_enter Tryz.func41, Tryz.ntmps41
  go_wp2
  go_loopw [2] (fun i wz => i = .int .i64 0 ∧ wz = W) (fun _ _ => 0)
  case atStart => exact ⟨rfl, rfl⟩
  case round =>
    obtain ⟨rfl, rfl⟩ := hrel
    go_wp2
    go_end0
    exact ⟨rfl, rfl⟩
set_option maxHeartbeats 1000000 in
theorem growSets_e (h : W.cell? ⟨bb, 10, none⟩ = some (.slice none 0 0)) : Calls Tryz.prog 53 #[.pointer (some ⟨bb, 0, none⟩)] W fun e w' => e = .returned (.slice none 0 0) ∧ w' = W := by
  go_enter Tryz.func53, Tryz.ntmps53
  go_wp2
  go_loopw [3, 4] (fun o i wz => o = .slice none 0 0 ∧ i = .int .i64 0 ∧ wz = W) (fun _ _ _ => 0)
  case atStart => exact ⟨rfl, rfl, rfl⟩
  case round =>
    obtain ⟨rfl, rfl, rfl⟩ := hrel
    go_wp2
    go_ret
    exact ⟨rfl, rfl⟩
set_option maxHeartbeats 1000000 in
theorem markedSets_e (W : World) : Calls Tryz.prog 65 #[.slice none 0 0] W fun e w' => e = .returned (.bool true) ∧ w' = W := by
  go_enter Tryz.func65, Tryz.ntmps65
  go_wp2
  go_loopw [3] (fun i wz => i = .int .i64 0 ∧ wz = W) (fun _ _ => 0)
  case atStart => exact ⟨rfl, rfl⟩
  case round =>
    obtain ⟨rfl, rfl⟩ := hrel
    go_wp2
    go_ret
    exact ⟨rfl, rfl⟩
set_option maxHeartbeats 1000000 in
theorem stillEvents_e (h : W.cell? ⟨bb, 12, none⟩ = some (.slice none 0 0)) : Calls Tryz.prog 30 #[.pointer (some ⟨bb, 0, none⟩)] W fun e w' => e = .returned (.bool true) ∧ w' = W := by
  go_enter Tryz.func30, Tryz.ntmps30
  go_wp2
  go_loopw [3] (fun i wz => i = .int .i64 0 ∧ wz = W) (fun _ _ => 0)
  case atStart => exact ⟨rfl, rfl⟩
  case round =>
    obtain ⟨rfl, rfl⟩ := hrel
    go_wp2
    go_ret
    exact ⟨rfl, rfl⟩
set_option maxHeartbeats 1000000 in
theorem putEvents_e (h : W.cell? ⟨bb, 12, none⟩ = some (.slice none 0 0)) : Calls Tryz.prog 42 #[.pointer (some ⟨bb, 0, none⟩)] W fun e w' => e = .returned (.tuple #[]) ∧ w' = W := by
  go_enter Tryz.func42, Tryz.ntmps42
  go_wp2
  go_loopw [2] (fun i wz => i = .int .i64 0 ∧ wz = W) (fun _ _ => 0)
  case atStart => exact ⟨rfl, rfl⟩
  case round =>
    obtain ⟨rfl, rfl⟩ := hrel
    go_wp2
    go_end0
    exact ⟨rfl, rfl⟩
set_option maxHeartbeats 1000000 in
theorem growEvents_e (h : W.cell? ⟨bb, 12, none⟩ = some (.slice none 0 0)) : Calls Tryz.prog 54 #[.pointer (some ⟨bb, 0, none⟩)] W fun e w' => e = .returned (.slice none 0 0) ∧ w' = W := by
  go_enter Tryz.func54, Tryz.ntmps54
  go_wp2
  go_loopw [3, 4] (fun o i wz => o = .slice none 0 0 ∧ i = .int .i64 0 ∧ wz = W) (fun _ _ _ => 0)
  case atStart => exact ⟨rfl, rfl, rfl⟩
  case round =>
    obtain ⟨rfl, rfl, rfl⟩ := hrel
    go_wp2
    go_ret
    exact ⟨rfl, rfl⟩
set_option maxHeartbeats 1000000 in
theorem markedEvents_e (W : World) : Calls Tryz.prog 66 #[.slice none 0 0] W fun e w' => e = .returned (.bool true) ∧ w' = W := by
  go_enter Tryz.func66, Tryz.ntmps66
  go_wp2
  go_loopw [3] (fun i wz => i = .int .i64 0 ∧ wz = W) (fun _ _ => 0)
  case atStart => exact ⟨rfl, rfl⟩
  case round =>
    obtain ⟨rfl, rfl⟩ := hrel
    go_wp2
    go_ret
    exact ⟨rfl, rfl⟩
set_option maxHeartbeats 1000000 in
theorem stillErrs_e (h : W.cell? ⟨bb, 14, none⟩ = some (.slice none 0 0)) : Calls Tryz.prog 31 #[.pointer (some ⟨bb, 0, none⟩)] W fun e w' => e = .returned (.bool true) ∧ w' = W := by
  go_enter Tryz.func31, Tryz.ntmps31
  go_wp2
  go_loopw [3] (fun i wz => i = .int .i64 0 ∧ wz = W) (fun _ _ => 0)
  case atStart => exact ⟨rfl, rfl⟩
  case round =>
    obtain ⟨rfl, rfl⟩ := hrel
    go_wp2
    go_ret
    exact ⟨rfl, rfl⟩
set_option maxHeartbeats 1000000 in
theorem putErrs_e (h : W.cell? ⟨bb, 14, none⟩ = some (.slice none 0 0)) : Calls Tryz.prog 43 #[.pointer (some ⟨bb, 0, none⟩)] W fun e w' => e = .returned (.tuple #[]) ∧ w' = W := by
  go_enter Tryz.func43, Tryz.ntmps43
  go_wp2
  go_loopw [2] (fun i wz => i = .int .i64 0 ∧ wz = W) (fun _ _ => 0)
  case atStart => exact ⟨rfl, rfl⟩
  case round =>
    obtain ⟨rfl, rfl⟩ := hrel
    go_wp2
    go_end0
    exact ⟨rfl, rfl⟩
set_option maxHeartbeats 1000000 in
theorem growErrs_e (h : W.cell? ⟨bb, 14, none⟩ = some (.slice none 0 0)) : Calls Tryz.prog 55 #[.pointer (some ⟨bb, 0, none⟩)] W fun e w' => e = .returned (.slice none 0 0) ∧ w' = W := by
  go_enter Tryz.func55, Tryz.ntmps55
  go_wp2
  go_loopw [3, 4] (fun o i wz => o = .slice none 0 0 ∧ i = .int .i64 0 ∧ wz = W) (fun _ _ _ => 0)
  case atStart => exact ⟨rfl, rfl, rfl⟩
  case round =>
    obtain ⟨rfl, rfl, rfl⟩ := hrel
    go_wp2
    go_ret
    exact ⟨rfl, rfl⟩
set_option maxHeartbeats 1000000 in
theorem markedErrs_e (W : World) : Calls Tryz.prog 67 #[.slice none 0 0] W fun e w' => e = .returned (.bool true) ∧ w' = W := by
  go_enter Tryz.func67, Tryz.ntmps67
  go_wp2
  go_loopw [3] (fun i wz => i = .int .i64 0 ∧ wz = W) (fun _ _ => 0)
  case atStart => exact ⟨rfl, rfl⟩
  case round =>
    obtain ⟨rfl, rfl⟩ := hrel
    go_wp2
    go_ret
    exact ⟨rfl, rfl⟩
set_option maxHeartbeats 1000000 in
theorem stillOuts_e (h : W.cell? ⟨bb, 16, none⟩ = some (.slice none 0 0)) : Calls Tryz.prog 32 #[.pointer (some ⟨bb, 0, none⟩)] W fun e w' => e = .returned (.bool true) ∧ w' = W := by
  go_enter Tryz.func32, Tryz.ntmps32
  go_wp2
  go_loopw [3] (fun i wz => i = .int .i64 0 ∧ wz = W) (fun _ _ => 0)
  case atStart => exact ⟨rfl, rfl⟩
  case round =>
    obtain ⟨rfl, rfl⟩ := hrel
    go_wp2
    go_ret
    exact ⟨rfl, rfl⟩
set_option maxHeartbeats 1000000 in
theorem putOuts_e (h : W.cell? ⟨bb, 16, none⟩ = some (.slice none 0 0)) : Calls Tryz.prog 44 #[.pointer (some ⟨bb, 0, none⟩)] W fun e w' => e = .returned (.tuple #[]) ∧ w' = W := by
  go_enter Tryz.func44, Tryz.ntmps44
  go_wp2
  go_loopw [2] (fun i wz => i = .int .i64 0 ∧ wz = W) (fun _ _ => 0)
  case atStart => exact ⟨rfl, rfl⟩
  case round =>
    obtain ⟨rfl, rfl⟩ := hrel
    go_wp2
    go_end0
    exact ⟨rfl, rfl⟩
set_option maxHeartbeats 1000000 in
theorem growOuts_e (h : W.cell? ⟨bb, 16, none⟩ = some (.slice none 0 0)) : Calls Tryz.prog 56 #[.pointer (some ⟨bb, 0, none⟩)] W fun e w' => e = .returned (.slice none 0 0) ∧ w' = W := by
  go_enter Tryz.func56, Tryz.ntmps56
  go_wp2
  go_loopw [3, 4] (fun o i wz => o = .slice none 0 0 ∧ i = .int .i64 0 ∧ wz = W) (fun _ _ _ => 0)
  case atStart => exact ⟨rfl, rfl, rfl⟩
  case round =>
    obtain ⟨rfl, rfl, rfl⟩ := hrel
    go_wp2
    go_ret
    exact ⟨rfl, rfl⟩
set_option maxHeartbeats 1000000 in
theorem markedOuts_e (W : World) : Calls Tryz.prog 68 #[.slice none 0 0] W fun e w' => e = .returned (.bool true) ∧ w' = W := by
  go_enter Tryz.func68, Tryz.ntmps68
  go_wp2
  go_loopw [3] (fun i wz => i = .int .i64 0 ∧ wz = W) (fun _ _ => 0)
  case atStart => exact ⟨rfl, rfl⟩
  case round =>
    obtain ⟨rfl, rfl⟩ := hrel
    go_wp2
    go_ret
    exact ⟨rfl, rfl⟩
set_option maxHeartbeats 1000000 in
theorem stillGrams_e (h : W.cell? ⟨bb, 18, none⟩ = some (.slice none 0 0)) : Calls Tryz.prog 33 #[.pointer (some ⟨bb, 0, none⟩)] W fun e w' => e = .returned (.bool true) ∧ w' = W := by
  go_enter Tryz.func33, Tryz.ntmps33
  go_wp2
  go_loopw [3] (fun i wz => i = .int .i64 0 ∧ wz = W) (fun _ _ => 0)
  case atStart => exact ⟨rfl, rfl⟩
  case round =>
    obtain ⟨rfl, rfl⟩ := hrel
    go_wp2
    go_ret
    exact ⟨rfl, rfl⟩
set_option maxHeartbeats 1000000 in
theorem putGrams_e (h : W.cell? ⟨bb, 18, none⟩ = some (.slice none 0 0)) : Calls Tryz.prog 45 #[.pointer (some ⟨bb, 0, none⟩)] W fun e w' => e = .returned (.tuple #[]) ∧ w' = W := by
  go_enter Tryz.func45, Tryz.ntmps45
  go_wp2
  go_loopw [2] (fun i wz => i = .int .i64 0 ∧ wz = W) (fun _ _ => 0)
  case atStart => exact ⟨rfl, rfl⟩
  case round =>
    obtain ⟨rfl, rfl⟩ := hrel
    go_wp2
    go_end0
    exact ⟨rfl, rfl⟩
set_option maxHeartbeats 1000000 in
theorem growGrams_e (h : W.cell? ⟨bb, 18, none⟩ = some (.slice none 0 0)) : Calls Tryz.prog 57 #[.pointer (some ⟨bb, 0, none⟩)] W fun e w' => e = .returned (.slice none 0 0) ∧ w' = W := by
  go_enter Tryz.func57, Tryz.ntmps57
  go_wp2
  go_loopw [3, 4] (fun o i wz => o = .slice none 0 0 ∧ i = .int .i64 0 ∧ wz = W) (fun _ _ _ => 0)
  case atStart => exact ⟨rfl, rfl, rfl⟩
  case round =>
    obtain ⟨rfl, rfl, rfl⟩ := hrel
    go_wp2
    go_ret
    exact ⟨rfl, rfl⟩
set_option maxHeartbeats 1000000 in
theorem markedGrams_e (W : World) : Calls Tryz.prog 69 #[.slice none 0 0] W fun e w' => e = .returned (.bool true) ∧ w' = W := by
  go_enter Tryz.func69, Tryz.ntmps69
  go_wp2
  go_loopw [3] (fun i wz => i = .int .i64 0 ∧ wz = W) (fun _ _ => 0)
  case atStart => exact ⟨rfl, rfl⟩
  case round =>
    obtain ⟨rfl, rfl⟩ := hrel
    go_wp2
    go_ret
    exact ⟨rfl, rfl⟩
set_option maxHeartbeats 1000000 in
theorem stillSteps_e (h : W.cell? ⟨bb, 20, none⟩ = some (.slice none 0 0)) : Calls Tryz.prog 34 #[.pointer (some ⟨bb, 0, none⟩)] W fun e w' => e = .returned (.bool true) ∧ w' = W := by
  go_enter Tryz.func34, Tryz.ntmps34
  go_wp2
  go_loopw [3] (fun i wz => i = .int .i64 0 ∧ wz = W) (fun _ _ => 0)
  case atStart => exact ⟨rfl, rfl⟩
  case round =>
    obtain ⟨rfl, rfl⟩ := hrel
    go_wp2
    go_ret
    exact ⟨rfl, rfl⟩
set_option maxHeartbeats 1000000 in
theorem putSteps_e (h : W.cell? ⟨bb, 20, none⟩ = some (.slice none 0 0)) : Calls Tryz.prog 46 #[.pointer (some ⟨bb, 0, none⟩)] W fun e w' => e = .returned (.tuple #[]) ∧ w' = W := by
  go_enter Tryz.func46, Tryz.ntmps46
  go_wp2
  go_loopw [2] (fun i wz => i = .int .i64 0 ∧ wz = W) (fun _ _ => 0)
  case atStart => exact ⟨rfl, rfl⟩
  case round =>
    obtain ⟨rfl, rfl⟩ := hrel
    go_wp2
    go_end0
    exact ⟨rfl, rfl⟩
set_option maxHeartbeats 1000000 in
theorem growSteps_e (h : W.cell? ⟨bb, 20, none⟩ = some (.slice none 0 0)) : Calls Tryz.prog 58 #[.pointer (some ⟨bb, 0, none⟩)] W fun e w' => e = .returned (.slice none 0 0) ∧ w' = W := by
  go_enter Tryz.func58, Tryz.ntmps58
  go_wp2
  go_loopw [3, 4] (fun o i wz => o = .slice none 0 0 ∧ i = .int .i64 0 ∧ wz = W) (fun _ _ _ => 0)
  case atStart => exact ⟨rfl, rfl, rfl⟩
  case round =>
    obtain ⟨rfl, rfl, rfl⟩ := hrel
    go_wp2
    go_ret
    exact ⟨rfl, rfl⟩
set_option maxHeartbeats 1000000 in
theorem markedSteps_e (W : World) : Calls Tryz.prog 70 #[.slice none 0 0] W fun e w' => e = .returned (.bool true) ∧ w' = W := by
  go_enter Tryz.func70, Tryz.ntmps70
  go_wp2
  go_loopw [3] (fun i wz => i = .int .i64 0 ∧ wz = W) (fun _ _ => 0)
  case atStart => exact ⟨rfl, rfl⟩
  case round =>
    obtain ⟨rfl, rfl⟩ := hrel
    go_wp2
    go_ret
    exact ⟨rfl, rfl⟩
end
/-- The book of words and rows of words. -/
structure BkW (base bb : Nat) (W : World) (C : Array Value) (uT vT : Value) (xT yT : List Value) (LT : List (List tTokens)) (uR vR : Value) (xR yR : List Value) (LR : List (List tRows)) : Prop where
  bk : Bb 38 W bb C
  sz : C.size = 24
  cs : ∀ j, j < 24 → j ≠ 4 → j ≠ 5 → j ≠ 22 → j ≠ 23 → C[j]? = some (.slice none 0 0)
  iT : C[4]? = some uT
  jT : C[5]? = some vT
  iR : C[22]? = some uR
  jR : C[23]? = some vR
  tk : Kkq cTokens 4 50 39 base W uT vT xT yT LT
  rw : Kk cRows 1 39 27 base W uR vR xR yR LR
  dp : DpL W LR
  s1 : ∀ (g i : Nat) (z : Value), (uT.ownBlock = some g ∨ vT.ownBlock = some g) → (xR[i]? = some z ∨ yR[i]? = some z) → z.ownBlock ≠ some g
set_option maxHeartbeats 40000000 in
set_option maxRecDepth 100000 in
theorem apartW_any {base bb : Nat} {w : World} {C : Array Value} {uT vT : Value} {xT yT : List Value} {LT : List (List tTokens)} {uR vR : Value} {xR yR : List Value} {LR : List (List tRows)} (h : BkW base bb w C uT vT xT yT LT uR vR xR yR LR) (hbz : base ≤ w.heap.size) : Calls Tryz.prog 13 #[.pointer (some ⟨bb, 0, none⟩)] w fun e w' => e = .returned (.bool true) ∧ Below base w w' := by
  obtain ⟨hB, hsz, hC, huT, hvT, huR, hvR, hT, hR, hD, hS⟩ := h
  have HS : Hid (∀ (g : Nat), uT.ownBlock = some g → Px xR g) := fun g hg i z hz => hS g i z (.inl hg) (.inl hz)
  clear hS hsz
  have hsInts : ∀ V, Bb 38 V bb C → Calls Tryz.prog 24 #[.pointer (some ⟨bb, 0, none⟩)] V fun e w' => e = .returned (.bool true) ∧ w' = V := fun V hV => stillInts_e (by rw [cell_at hV]; exact hC 0 (by decide) (by decide) (by decide) (by decide) (by decide))
  have hpInts : ∀ V, Bb 38 V bb C → Calls Tryz.prog 36 #[.pointer (some ⟨bb, 0, none⟩)] V fun e w' => e = .returned (.tuple #[]) ∧ w' = V := fun V hV => putInts_e (by rw [cell_at hV]; exact hC 0 (by decide) (by decide) (by decide) (by decide) (by decide))
  have hgInts : ∀ V, Bb 38 V bb C → Calls Tryz.prog 48 #[.pointer (some ⟨bb, 0, none⟩)] V fun e w' => e = .returned (.slice none 0 0) ∧ w' = V := fun V hV => growInts_e (by rw [cell_at hV]; exact hC 0 (by decide) (by decide) (by decide) (by decide) (by decide))
  have hmInts := markedInts_e
  have hsChars : ∀ V, Bb 38 V bb C → Calls Tryz.prog 25 #[.pointer (some ⟨bb, 0, none⟩)] V fun e w' => e = .returned (.bool true) ∧ w' = V := fun V hV => stillChars_e (by rw [cell_at hV]; exact hC 2 (by decide) (by decide) (by decide) (by decide) (by decide))
  have hpChars : ∀ V, Bb 38 V bb C → Calls Tryz.prog 37 #[.pointer (some ⟨bb, 0, none⟩)] V fun e w' => e = .returned (.tuple #[]) ∧ w' = V := fun V hV => putChars_e (by rw [cell_at hV]; exact hC 2 (by decide) (by decide) (by decide) (by decide) (by decide))
  have hgChars : ∀ V, Bb 38 V bb C → Calls Tryz.prog 49 #[.pointer (some ⟨bb, 0, none⟩)] V fun e w' => e = .returned (.slice none 0 0) ∧ w' = V := fun V hV => growChars_e (by rw [cell_at hV]; exact hC 2 (by decide) (by decide) (by decide) (by decide) (by decide))
  have hmChars := markedChars_e
  have hsNotices : ∀ V, Bb 38 V bb C → Calls Tryz.prog 27 #[.pointer (some ⟨bb, 0, none⟩)] V fun e w' => e = .returned (.bool true) ∧ w' = V := fun V hV => stillNotices_e (by rw [cell_at hV]; exact hC 6 (by decide) (by decide) (by decide) (by decide) (by decide))
  have hpNotices : ∀ V, Bb 38 V bb C → Calls Tryz.prog 39 #[.pointer (some ⟨bb, 0, none⟩)] V fun e w' => e = .returned (.tuple #[]) ∧ w' = V := fun V hV => putNotices_e (by rw [cell_at hV]; exact hC 6 (by decide) (by decide) (by decide) (by decide) (by decide))
  have hgNotices : ∀ V, Bb 38 V bb C → Calls Tryz.prog 51 #[.pointer (some ⟨bb, 0, none⟩)] V fun e w' => e = .returned (.slice none 0 0) ∧ w' = V := fun V hV => growNotices_e (by rw [cell_at hV]; exact hC 6 (by decide) (by decide) (by decide) (by decide) (by decide))
  have hmNotices := markedNotices_e
  have hsBytes : ∀ V, Bb 38 V bb C → Calls Tryz.prog 28 #[.pointer (some ⟨bb, 0, none⟩)] V fun e w' => e = .returned (.bool true) ∧ w' = V := fun V hV => stillBytes_e (by rw [cell_at hV]; exact hC 8 (by decide) (by decide) (by decide) (by decide) (by decide))
  have hpBytes : ∀ V, Bb 38 V bb C → Calls Tryz.prog 40 #[.pointer (some ⟨bb, 0, none⟩)] V fun e w' => e = .returned (.tuple #[]) ∧ w' = V := fun V hV => putBytes_e (by rw [cell_at hV]; exact hC 8 (by decide) (by decide) (by decide) (by decide) (by decide))
  have hgBytes : ∀ V, Bb 38 V bb C → Calls Tryz.prog 52 #[.pointer (some ⟨bb, 0, none⟩)] V fun e w' => e = .returned (.slice none 0 0) ∧ w' = V := fun V hV => growBytes_e (by rw [cell_at hV]; exact hC 8 (by decide) (by decide) (by decide) (by decide) (by decide))
  have hmBytes := markedBytes_e
  have hsSets : ∀ V, Bb 38 V bb C → Calls Tryz.prog 29 #[.pointer (some ⟨bb, 0, none⟩)] V fun e w' => e = .returned (.bool true) ∧ w' = V := fun V hV => stillSets_e (by rw [cell_at hV]; exact hC 10 (by decide) (by decide) (by decide) (by decide) (by decide))
  have hpSets : ∀ V, Bb 38 V bb C → Calls Tryz.prog 41 #[.pointer (some ⟨bb, 0, none⟩)] V fun e w' => e = .returned (.tuple #[]) ∧ w' = V := fun V hV => putSets_e (by rw [cell_at hV]; exact hC 10 (by decide) (by decide) (by decide) (by decide) (by decide))
  have hgSets : ∀ V, Bb 38 V bb C → Calls Tryz.prog 53 #[.pointer (some ⟨bb, 0, none⟩)] V fun e w' => e = .returned (.slice none 0 0) ∧ w' = V := fun V hV => growSets_e (by rw [cell_at hV]; exact hC 10 (by decide) (by decide) (by decide) (by decide) (by decide))
  have hmSets := markedSets_e
  have hsEvents : ∀ V, Bb 38 V bb C → Calls Tryz.prog 30 #[.pointer (some ⟨bb, 0, none⟩)] V fun e w' => e = .returned (.bool true) ∧ w' = V := fun V hV => stillEvents_e (by rw [cell_at hV]; exact hC 12 (by decide) (by decide) (by decide) (by decide) (by decide))
  have hpEvents : ∀ V, Bb 38 V bb C → Calls Tryz.prog 42 #[.pointer (some ⟨bb, 0, none⟩)] V fun e w' => e = .returned (.tuple #[]) ∧ w' = V := fun V hV => putEvents_e (by rw [cell_at hV]; exact hC 12 (by decide) (by decide) (by decide) (by decide) (by decide))
  have hgEvents : ∀ V, Bb 38 V bb C → Calls Tryz.prog 54 #[.pointer (some ⟨bb, 0, none⟩)] V fun e w' => e = .returned (.slice none 0 0) ∧ w' = V := fun V hV => growEvents_e (by rw [cell_at hV]; exact hC 12 (by decide) (by decide) (by decide) (by decide) (by decide))
  have hmEvents := markedEvents_e
  have hsErrs : ∀ V, Bb 38 V bb C → Calls Tryz.prog 31 #[.pointer (some ⟨bb, 0, none⟩)] V fun e w' => e = .returned (.bool true) ∧ w' = V := fun V hV => stillErrs_e (by rw [cell_at hV]; exact hC 14 (by decide) (by decide) (by decide) (by decide) (by decide))
  have hpErrs : ∀ V, Bb 38 V bb C → Calls Tryz.prog 43 #[.pointer (some ⟨bb, 0, none⟩)] V fun e w' => e = .returned (.tuple #[]) ∧ w' = V := fun V hV => putErrs_e (by rw [cell_at hV]; exact hC 14 (by decide) (by decide) (by decide) (by decide) (by decide))
  have hgErrs : ∀ V, Bb 38 V bb C → Calls Tryz.prog 55 #[.pointer (some ⟨bb, 0, none⟩)] V fun e w' => e = .returned (.slice none 0 0) ∧ w' = V := fun V hV => growErrs_e (by rw [cell_at hV]; exact hC 14 (by decide) (by decide) (by decide) (by decide) (by decide))
  have hmErrs := markedErrs_e
  have hsOuts : ∀ V, Bb 38 V bb C → Calls Tryz.prog 32 #[.pointer (some ⟨bb, 0, none⟩)] V fun e w' => e = .returned (.bool true) ∧ w' = V := fun V hV => stillOuts_e (by rw [cell_at hV]; exact hC 16 (by decide) (by decide) (by decide) (by decide) (by decide))
  have hpOuts : ∀ V, Bb 38 V bb C → Calls Tryz.prog 44 #[.pointer (some ⟨bb, 0, none⟩)] V fun e w' => e = .returned (.tuple #[]) ∧ w' = V := fun V hV => putOuts_e (by rw [cell_at hV]; exact hC 16 (by decide) (by decide) (by decide) (by decide) (by decide))
  have hgOuts : ∀ V, Bb 38 V bb C → Calls Tryz.prog 56 #[.pointer (some ⟨bb, 0, none⟩)] V fun e w' => e = .returned (.slice none 0 0) ∧ w' = V := fun V hV => growOuts_e (by rw [cell_at hV]; exact hC 16 (by decide) (by decide) (by decide) (by decide) (by decide))
  have hmOuts := markedOuts_e
  have hsGrams : ∀ V, Bb 38 V bb C → Calls Tryz.prog 33 #[.pointer (some ⟨bb, 0, none⟩)] V fun e w' => e = .returned (.bool true) ∧ w' = V := fun V hV => stillGrams_e (by rw [cell_at hV]; exact hC 18 (by decide) (by decide) (by decide) (by decide) (by decide))
  have hpGrams : ∀ V, Bb 38 V bb C → Calls Tryz.prog 45 #[.pointer (some ⟨bb, 0, none⟩)] V fun e w' => e = .returned (.tuple #[]) ∧ w' = V := fun V hV => putGrams_e (by rw [cell_at hV]; exact hC 18 (by decide) (by decide) (by decide) (by decide) (by decide))
  have hgGrams : ∀ V, Bb 38 V bb C → Calls Tryz.prog 57 #[.pointer (some ⟨bb, 0, none⟩)] V fun e w' => e = .returned (.slice none 0 0) ∧ w' = V := fun V hV => growGrams_e (by rw [cell_at hV]; exact hC 18 (by decide) (by decide) (by decide) (by decide) (by decide))
  have hmGrams := markedGrams_e
  have hsSteps : ∀ V, Bb 38 V bb C → Calls Tryz.prog 34 #[.pointer (some ⟨bb, 0, none⟩)] V fun e w' => e = .returned (.bool true) ∧ w' = V := fun V hV => stillSteps_e (by rw [cell_at hV]; exact hC 20 (by decide) (by decide) (by decide) (by decide) (by decide))
  have hpSteps : ∀ V, Bb 38 V bb C → Calls Tryz.prog 46 #[.pointer (some ⟨bb, 0, none⟩)] V fun e w' => e = .returned (.tuple #[]) ∧ w' = V := fun V hV => putSteps_e (by rw [cell_at hV]; exact hC 20 (by decide) (by decide) (by decide) (by decide) (by decide))
  have hgSteps : ∀ V, Bb 38 V bb C → Calls Tryz.prog 58 #[.pointer (some ⟨bb, 0, none⟩)] V fun e w' => e = .returned (.slice none 0 0) ∧ w' = V := fun V hV => growSteps_e (by rw [cell_at hV]; exact hC 20 (by decide) (by decide) (by decide) (by decide) (by decide))
  have hmSteps := markedSteps_e
  have hst0 := stillTokens_any hB huT hvT hT.kl hT.cl
  go_enter Tryz.func13, Tryz.ntmps13
  go_wp2_with (first | (go_at_call 24; (with_reducible refine (hsInts _ (by assumption)).mono ?_); rintro e vv ⟨rfl, hvv⟩; obtain rfl := hvv.symm) | (go_at_call 36; (with_reducible refine (hpInts _ (by assumption)).mono ?_); rintro e vv ⟨rfl, hvv⟩; obtain rfl := hvv.symm) | (go_at_call 48; (with_reducible refine (hgInts _ (by assumption)).mono ?_); rintro e vv ⟨rfl, hvv⟩; obtain rfl := hvv.symm) | (go_at_call 60; (with_reducible refine (hmInts _).mono ?_); rintro e vv ⟨rfl, hvv⟩; obtain rfl := hvv.symm) | (go_at_call 25; (with_reducible refine (hsChars _ (by assumption)).mono ?_); rintro e vv ⟨rfl, hvv⟩; obtain rfl := hvv.symm) | (go_at_call 37; (with_reducible refine (hpChars _ (by assumption)).mono ?_); rintro e vv ⟨rfl, hvv⟩; obtain rfl := hvv.symm) | (go_at_call 49; (with_reducible refine (hgChars _ (by assumption)).mono ?_); rintro e vv ⟨rfl, hvv⟩; obtain rfl := hvv.symm) | (go_at_call 61; (with_reducible refine (hmChars _).mono ?_); rintro e vv ⟨rfl, hvv⟩; obtain rfl := hvv.symm) | (go_at_call 27; (with_reducible refine (hsNotices _ (by assumption)).mono ?_); rintro e vv ⟨rfl, hvv⟩; obtain rfl := hvv.symm) | (go_at_call 39; (with_reducible refine (hpNotices _ (by assumption)).mono ?_); rintro e vv ⟨rfl, hvv⟩; obtain rfl := hvv.symm) | (go_at_call 51; (with_reducible refine (hgNotices _ (by assumption)).mono ?_); rintro e vv ⟨rfl, hvv⟩; obtain rfl := hvv.symm) | (go_at_call 63; (with_reducible refine (hmNotices _).mono ?_); rintro e vv ⟨rfl, hvv⟩; obtain rfl := hvv.symm) | (go_at_call 28; (with_reducible refine (hsBytes _ (by assumption)).mono ?_); rintro e vv ⟨rfl, hvv⟩; obtain rfl := hvv.symm) | (go_at_call 40; (with_reducible refine (hpBytes _ (by assumption)).mono ?_); rintro e vv ⟨rfl, hvv⟩; obtain rfl := hvv.symm) | (go_at_call 52; (with_reducible refine (hgBytes _ (by assumption)).mono ?_); rintro e vv ⟨rfl, hvv⟩; obtain rfl := hvv.symm) | (go_at_call 64; (with_reducible refine (hmBytes _).mono ?_); rintro e vv ⟨rfl, hvv⟩; obtain rfl := hvv.symm) | (go_at_call 29; (with_reducible refine (hsSets _ (by assumption)).mono ?_); rintro e vv ⟨rfl, hvv⟩; obtain rfl := hvv.symm) | (go_at_call 41; (with_reducible refine (hpSets _ (by assumption)).mono ?_); rintro e vv ⟨rfl, hvv⟩; obtain rfl := hvv.symm) | (go_at_call 53; (with_reducible refine (hgSets _ (by assumption)).mono ?_); rintro e vv ⟨rfl, hvv⟩; obtain rfl := hvv.symm) | (go_at_call 65; (with_reducible refine (hmSets _).mono ?_); rintro e vv ⟨rfl, hvv⟩; obtain rfl := hvv.symm) | (go_at_call 30; (with_reducible refine (hsEvents _ (by assumption)).mono ?_); rintro e vv ⟨rfl, hvv⟩; obtain rfl := hvv.symm) | (go_at_call 42; (with_reducible refine (hpEvents _ (by assumption)).mono ?_); rintro e vv ⟨rfl, hvv⟩; obtain rfl := hvv.symm) | (go_at_call 54; (with_reducible refine (hgEvents _ (by assumption)).mono ?_); rintro e vv ⟨rfl, hvv⟩; obtain rfl := hvv.symm) | (go_at_call 66; (with_reducible refine (hmEvents _).mono ?_); rintro e vv ⟨rfl, hvv⟩; obtain rfl := hvv.symm) | (go_at_call 31; (with_reducible refine (hsErrs _ (by assumption)).mono ?_); rintro e vv ⟨rfl, hvv⟩; obtain rfl := hvv.symm) | (go_at_call 43; (with_reducible refine (hpErrs _ (by assumption)).mono ?_); rintro e vv ⟨rfl, hvv⟩; obtain rfl := hvv.symm) | (go_at_call 55; (with_reducible refine (hgErrs _ (by assumption)).mono ?_); rintro e vv ⟨rfl, hvv⟩; obtain rfl := hvv.symm) | (go_at_call 67; (with_reducible refine (hmErrs _).mono ?_); rintro e vv ⟨rfl, hvv⟩; obtain rfl := hvv.symm) | (go_at_call 32; (with_reducible refine (hsOuts _ (by assumption)).mono ?_); rintro e vv ⟨rfl, hvv⟩; obtain rfl := hvv.symm) | (go_at_call 44; (with_reducible refine (hpOuts _ (by assumption)).mono ?_); rintro e vv ⟨rfl, hvv⟩; obtain rfl := hvv.symm) | (go_at_call 56; (with_reducible refine (hgOuts _ (by assumption)).mono ?_); rintro e vv ⟨rfl, hvv⟩; obtain rfl := hvv.symm) | (go_at_call 68; (with_reducible refine (hmOuts _).mono ?_); rintro e vv ⟨rfl, hvv⟩; obtain rfl := hvv.symm) | (go_at_call 33; (with_reducible refine (hsGrams _ (by assumption)).mono ?_); rintro e vv ⟨rfl, hvv⟩; obtain rfl := hvv.symm) | (go_at_call 45; (with_reducible refine (hpGrams _ (by assumption)).mono ?_); rintro e vv ⟨rfl, hvv⟩; obtain rfl := hvv.symm) | (go_at_call 57; (with_reducible refine (hgGrams _ (by assumption)).mono ?_); rintro e vv ⟨rfl, hvv⟩; obtain rfl := hvv.symm) | (go_at_call 69; (with_reducible refine (hmGrams _).mono ?_); rintro e vv ⟨rfl, hvv⟩; obtain rfl := hvv.symm) | (go_at_call 34; (with_reducible refine (hsSteps _ (by assumption)).mono ?_); rintro e vv ⟨rfl, hvv⟩; obtain rfl := hvv.symm) | (go_at_call 46; (with_reducible refine (hpSteps _ (by assumption)).mono ?_); rintro e vv ⟨rfl, hvv⟩; obtain rfl := hvv.symm) | (go_at_call 58; (with_reducible refine (hgSteps _ (by assumption)).mono ?_); rintro e vv ⟨rfl, hvv⟩; obtain rfl := hvv.symm) | (go_at_call 70; (with_reducible refine (hmSteps _).mono ?_); rintro e vv ⟨rfl, hvv⟩; obtain rfl := hvv.symm) | (go_at_call 26; (with_reducible refine hst0.mono ?_); rintro e z0 ⟨rfl, hb0⟩; have hB0 := hB.carry hb0; have T0 := hT.carry hb0; have R0 := hR.carry hb0; have D0 := hD.carry hb0; have HB0 : Hid (Below base w z0) := hb0.mono hbz; have hst1 := stillRows_any hB0 huR hvR R0.kl D0 R0.cl; clear hB) | (go_at_call 35; (with_reducible refine hst1.mono ?_); rintro e z1 ⟨rfl, hb1⟩; have hB1 := hB0.carry hb1; have T1 := T0.kl.carry hb1; have R1 := R0.kl.carry hb1; have HB1 : Hid (Below base w z1) := HB0.out.trans (hb1.mono (Nat.le_trans hbz HB0.out.size)); have hst2 := putTokens_any hB1 huT T1; clear hB0) | (go_at_call 38; (with_reducible refine hst2.mono ?_); rintro e z2 ⟨rfl, ⟨L2, T2, hup2⟩, hb2⟩; have hB2 : Bb 38 z2 bb C := (hb2.block _ (lt_at hB1) (T1.px hB1 (by decide))).trans hB1; have R2 := R1.bxq T1 hb2 (by decide) (by decide); have HB2 : Hid (Below base w z2) := HB1.out.trans (hb2.lowq T1 (Nat.le_trans hbz HB1.out.size)); have HMT : Hid (Mkd mTokens L2) := hup2.all; have hst3 := putRows_any hB2 huR R2; clear hB1) | (go_at_call 47; (with_reducible refine hst3.mono ?_); rintro e z3 ⟨rfl, ⟨L3, R3, hup3⟩, hb3⟩; have hB3 : Bb 38 z3 bb C := (hb3.block _ (lt_at hB2) (R2.px hB2 (by decide))).trans hB2; have T3 := T2.bx hb3 HS.out (fun i z g hz hg => by obtain ⟨cur, q⟩ := T2.tyx hz hg; exact R2.px q (by decide)); have HB3 : Hid (Below base w z3) := HB2.out.trans (hb3.low R2 (Nat.le_trans hbz HB2.out.size)); have HMR : Hid (MkdR L3 z2.heap.size z3) := hup3.all; have HLT : Hid (∀ (i : Nat) (z : Value) (g : Nat), xT[i]? = some z → z.ownBlock = some g → g < z2.heap.size) := fun i z g hz hg => (T2.ltx hz hg).2; have HZ23 : Hid (z2.heap.size ≤ z3.heap.size) := hb3.size; have hst4 := growTokens_any hB3 huT T3 HMT.out (Nat.le_trans hbz HB3.out.size); clear hB2) | (go_at_call 50; (with_reducible refine hst4.mono ?_); rintro e z4 ⟨uoT, rfl, OT, hoT4, hgT4, T4, hb4⟩; have hB4 : Bb 38 z4 bb C := (hb4.block _ (lt_at hB3) (T3.px hB3 (by decide))).trans hB3; have R4 := R3.bxq T3 hb4 (by decide) (by decide); have M4 := HMR.out.bx hb4 HLT.out; have HB4 : Hid (Below base w z4) := HB3.out.trans (hb4.lowq T3 (Nat.le_trans hbz HB3.out.size)); have HZ34 : Hid (z3.heap.size ≤ z4.heap.size) := hb4.size; have hst5 := growRows_any hB4 huR R4 M4 (Nat.le_trans HZ23.out HZ34.out) (Nat.le_trans hbz HB4.out.size); clear hB3) | (go_at_call 59; (with_reducible refine hst5.mono ?_); rintro e z5 ⟨uoR, rfl, OR, hoR5, hgR5, R5, M5, hb5⟩; have hB5 : Bb 38 z5 bb C := (hb5.block _ (lt_at hB4) (R4.px hB4 (by decide))).trans hB4; have T5 := T4.bx hb5 HS.out (fun i z g hz hg => by obtain ⟨cur, q⟩ := T4.tyx hz hg; exact R4.px q (by decide)); have hoT5 := row_at hoT4 (fun g hg => hb5.block g (row_lt hoT4 g hg).2 (fun i z hz e9 => by have q1 := (row_lt hoT4 g hg).1; have q2 := (R3.ltx hz e9).2; omega)); have hgT5 := hgT4.gkn.bxt R4 hb5 (by decide); have HB5 : Hid (Below base w z5) := HB4.out.trans (hb5.low R4 (Nat.le_trans hbz HB4.out.size)); have hst6 := markedTokens_any hoT5 hgT5.mkn T5.k; clear hB4; have c5_0 : z5.cell? ⟨bb, 0, none⟩ = some (.slice none 0 0) := (by rw [cell_at hB5]; exact hC 0 (by decide) (by decide) (by decide) (by decide) (by decide)); have c5_2 : z5.cell? ⟨bb, 2, none⟩ = some (.slice none 0 0) := (by rw [cell_at hB5]; exact hC 2 (by decide) (by decide) (by decide) (by decide) (by decide))) | (go_at_call 62; (with_reducible refine hst6.mono ?_); rintro e z6 ⟨rfl, hb6⟩; clear hst6; have hB6 := hB5.carry hb6; have T6 := T5.carry hb6; have R6 := R5.carry hb6; have M6 := M5.carry hb6; have hoR6 := row_below hoR5 hb6; have hgR6 := hgR5.carry hb6; have HB6 : Hid (Below base w z6) := HB5.out.trans (hb6.mono (Nat.le_trans hbz HB5.out.size)); have hst7 := markedTokens_any T6.row (Mkn.ofq T6 HMT.out) T6.k; clear hB5; have c6_4 : z6.cell? ⟨bb, 4, none⟩ = some uT := (by rw [cell_at hB6]; exact huT)) | (go_at_call 62; (with_reducible refine hst7.mono ?_); rintro e z7 ⟨rfl, hb7⟩; clear hst7; have hB7 := hB6.carry hb7; have R7 := R6.carry hb7; have M7 := M6.carry hb7; have hoR7 := row_below hoR6 hb7; have hgR7 := hgR6.carry hb7; have HB7 : Hid (Below base w z7) := HB6.out.trans (hb7.mono (Nat.le_trans hbz HB6.out.size)); have hst8 := markedRows_any hoR7 hgR7.mkn R7.k; clear hB6; have c7_6 : z7.cell? ⟨bb, 6, none⟩ = some (.slice none 0 0) := (by rw [cell_at hB7]; exact hC 6 (by decide) (by decide) (by decide) (by decide) (by decide)); have c7_8 : z7.cell? ⟨bb, 8, none⟩ = some (.slice none 0 0) := (by rw [cell_at hB7]; exact hC 8 (by decide) (by decide) (by decide) (by decide) (by decide)); have c7_10 : z7.cell? ⟨bb, 10, none⟩ = some (.slice none 0 0) := (by rw [cell_at hB7]; exact hC 10 (by decide) (by decide) (by decide) (by decide) (by decide)); have c7_12 : z7.cell? ⟨bb, 12, none⟩ = some (.slice none 0 0) := (by rw [cell_at hB7]; exact hC 12 (by decide) (by decide) (by decide) (by decide) (by decide)); have c7_14 : z7.cell? ⟨bb, 14, none⟩ = some (.slice none 0 0) := (by rw [cell_at hB7]; exact hC 14 (by decide) (by decide) (by decide) (by decide) (by decide)); have c7_16 : z7.cell? ⟨bb, 16, none⟩ = some (.slice none 0 0) := (by rw [cell_at hB7]; exact hC 16 (by decide) (by decide) (by decide) (by decide) (by decide)); have c7_18 : z7.cell? ⟨bb, 18, none⟩ = some (.slice none 0 0) := (by rw [cell_at hB7]; exact hC 18 (by decide) (by decide) (by decide) (by decide) (by decide)); have c7_20 : z7.cell? ⟨bb, 20, none⟩ = some (.slice none 0 0) := (by rw [cell_at hB7]; exact hC 20 (by decide) (by decide) (by decide) (by decide) (by decide))) | (go_at_call 71; (with_reducible refine hst8.mono ?_); rintro e z8 ⟨rfl, hb8⟩; clear hst8; have hB8 := hB7.carry hb8; have R8 := R7.carry hb8; have M8 := M7.carry hb8; have HB8 : Hid (Below base w z8) := HB7.out.trans (hb8.mono (Nat.le_trans hbz HB7.out.size)); have hst9 := markedRows_any R8.row (MknR.of R8 M8) R8.k; clear hB7; have c8_22 : z8.cell? ⟨bb, 22, none⟩ = some uR := (by rw [cell_at hB8]; exact huR)) | (go_at_call 71; (with_reducible refine hst9.mono ?_); rintro e z9 ⟨rfl, hb9⟩; clear hst9; have HB9 : Hid (Below base w z9) := HB8.out.trans (hb9.mono (Nat.le_trans hbz HB8.out.size))))
  go_ret
  exact ⟨rfl, HB9.out⟩
end Go.Proofs.YtngjjcmoekeciaaGreatDoor.Kel
