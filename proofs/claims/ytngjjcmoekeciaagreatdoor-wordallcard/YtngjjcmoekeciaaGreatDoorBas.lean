/- What strings.HasPrefix and glyph.looseAt answer: at every text of at most 2^63 - 1 bytes and every place in it. -/
import Derived.Test.YtngjjcmoekeciaaGreatDoorProg
import Derived.Test.YtngjjcmoekeciaaGreatDoorSeq
import Derived.Test.YtngjjcmoekeciaaGreatDoorChr
import Derived.Shelf.Abstract
import Derived.Shelf.RegionOpen
import Derived.WalkKit
import Derived.WalkSpells
import Derived.OwnWalkIn
import Derived.TacticsInMore
import Derived.LoopNIn
import Derived.LoopIn
import Derived.Lib.OthersKept
namespace Go.Proofs.YtngjjcmoekeciaaGreatDoor
open Go.RowKit Go.Shelf
attribute [local go_sem] Oper.semAt_some

set_option maxHeartbeats 400000 in
theorem prefix_any (a b : ByteArray) (_ha : a.size ≤ maxLen) (_hb : b.size ≤ maxLen) (w : World) :
    Calls Tryz.prog 109 #[.string a, .string b] w fun e w' => e = .returned (.bool (isPre a b)) ∧ w' = w := by
  unfold maxLen at _ha _hb
  by_cases h : b.size ≤ a.size
  · have e1 : isPre a b = ((a.extract 0 b.size).toList == b.toList) := by unfold isPre; rw [decide_eq_true h, Bool.true_and]
    rw [e1]; clear e1
    go_enter Tryz.func109, Tryz.ntmps109
    go_wp2
    go_ret
    exact ⟨rfl, rfl⟩
  · have e1 : isPre a b = false := by unfold isPre; rw [decide_eq_false h, Bool.false_and]
    rw [e1]; clear e1
    go_enter Tryz.func109, Tryz.ntmps109
    go_wp2
    go_ret
    exact ⟨rfl, rfl⟩

set_option maxHeartbeats 400000 in
theorem looseAt_any (s : ByteArray) (p : Nat) (hp : p < s.size) (hs : s.size ≤ maxLen) (w : World) :
    Calls Tryz.prog 114 #[.string s, .int .i64 p, .int .i32 (rn s p)] w fun e w' => e = .returned (.bool (looseB s p)) ∧ w' = w := by
  have hs' := hs
  unfold maxLen at hs'
  by_cases h : rn s p = 65533
  · have H := isPre_fffd s p hp h
    have hL : looseB s p = !isPre (s.extract p s.size) ⟨#[239, 191, 189]⟩ := by rw [H, Bool.not_not]
    rw [hL, h]
    clear H hL h
    go_enter Tryz.func114, Tryz.ntmps114
    go_wp2_with (go_at_call 109; refine (prefix_any (s.extract p s.size) ⟨#[239, 191, 189]⟩ ?_ ?_ _).mono ?_)
    · unfold maxLen; simp; omega
    · show (3 : Nat) ≤ maxLen; unfold maxLen; omega
    rintro e w' ⟨rfl, rfl⟩
    go_wp2
    go_ret
    exact ⟨rfl, rfl⟩
  · have hL : looseB s p = false := by simp [looseB, h]
    have hr : ((rn s p : Int) == 65533) = false := beq_eq_false_iff_ne.2 (by omega)
    rw [hL]
    clear hL h
    go_enter Tryz.func114, Tryz.ntmps114
    go_wp2
    go_ret
    exact ⟨rfl, rfl⟩
end Go.Proofs.YtngjjcmoekeciaaGreatDoor
