/- The small words that glyph.Unquote leans on: a byte of a text, what a hexadecimal digit is worth, a control. -/
import Derived.Test.YtibhljdiofglfabDoorBas
namespace Go.Proofs.YtibhljdiofglfabDoor
open Go.RowKit Go.Shelf

/-- A byte of a text; 0 behind its end. -/
def byt (s : ByteArray) (i : Nat) : Nat := if h : i < s.size then (s[i]'h).toNat else 0
/-- What a hexadecimal digit is worth. -/
def hexV (b : Nat) : Int := if 48 ≤ b ∧ b ≤ 57 then (b : Int) - 48 else if 97 ≤ b ∧ b ≤ 102 then (b : Int) - 87 else if 65 ≤ b ∧ b ≤ 70 then (b : Int) - 55 else -1

set_option maxHeartbeats 400000 in
theorem byteAt_any (s : ByteArray) (i : Nat) (w : World) :
    Calls Tryd.prog 41 #[.string s, .int .i64 i] w fun e w' => e = .returned (.int .u8 (byt s i)) ∧ w' = w := by
  by_cases h : i < s.size
  · have hb : byt s i = (s[i]'h).toNat := by unfold byt; rw [dif_pos h]
    have HB : Hid (byt s i = (s[i]'h).toNat) := hb
    clear hb
    go_enter Tryd.func41, Tryd.ntmps41
    go_wp2
    go_ret
    rw [HB.out]
    exact ⟨rfl, rfl⟩
  · have HB : Hid (byt s i = 0) := by show byt s i = 0; unfold byt; rw [dif_neg h]
    go_enter Tryd.func41, Tryd.ntmps41
    go_wp2
    go_ret
    rw [HB.out]
    exact ⟨rfl, rfl⟩

theorem ret_i32 {a b : Int} (h : a = b) : Ending.returned (.int .i32 a) = .returned (.int .i32 b) := by rw [h]
set_option maxHeartbeats 400000 in
theorem hexValue_any (b : Nat) (hb : b < 256) (w : World) :
    Calls Tryd.prog 42 #[.int .u8 b] w fun e w' => e = .returned (.int .i32 (hexV b)) ∧ w' = w := by
  go_enter Tryd.func42, Tryd.ntmps42
  go_wp2
  all_goals
    go_ret
    refine ⟨ret_i32 ?_, rfl⟩
    unfold hexV
    (repeat' split) <;> omega

/-- A control. -/
def ctl (r : Int) : Bool := decide (r < 32 ∨ r = 127)
set_option maxHeartbeats 400000 in
theorem isControl_any (r : Int) (w : World) :
    Calls Tryd.prog 35 #[.int .i32 r] w fun e w' => e = .returned (.bool (ctl r)) ∧ w' = w := by
  by_cases h1 : r < 32
  · have HB : Hid (ctl r = true) := by show ctl r = true; simp [ctl, h1]
    go_enter Tryd.func35, Tryd.ntmps35
    go_wp2
    go_ret
    rw [HB.out]
    exact ⟨rfl, rfl⟩
  · by_cases h2 : r = 127
    · subst h2
      have HB : Hid (ctl 127 = true) := rfl
      go_enter Tryd.func35, Tryd.ntmps35
      go_wp2
      go_ret
      exact ⟨rfl, rfl⟩
    · have HB : Hid (ctl r = false) := by show ctl r = false; simp [ctl, h1, h2]
      have hq : (r == 127) = false := beq_eq_false_iff_ne.2 h2
      go_enter Tryd.func35, Tryd.ntmps35
      go_wp2
      go_ret
      rw [HB.out]
      first | exact ⟨rfl, rfl⟩ | exact ⟨by simp [hq], rfl⟩
end Go.Proofs.YtibhljdiofglfabDoor
