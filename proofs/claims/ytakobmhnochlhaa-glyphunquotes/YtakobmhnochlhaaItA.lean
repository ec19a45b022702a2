/- What glyph.charAt answers, and its callees: at every text of at most 2^63 - 1 bytes and every place in it. -/
import Derived.Test.YtakobmhnochlhaaProg
import Derived.Test.YtakobmhnochlhaaSeq
import Derived.Test.YtakobmhnochlhaaChr
import Derived.Shelf.Abstract
import Derived.Shelf.RegionOpen
import Derived.WalkKit
import Derived.WalkSpells
import Derived.OwnWalkIn
import Derived.TacticsInMore
import Derived.LoopNIn
import Derived.LoopIn
import Derived.Lib.OthersKept
namespace Go.Proofs.Ytakobmhnochlhaa
open Go.RowKit Go.Shelf
attribute [local go_sem] Oper.semAt_some

set_option maxHeartbeats 400000 in
theorem runeLen_any (s : ByteArray) (p : Nat) (h : looseB s p = false) (w : World) :
    Calls Try.prog 36 #[.int .i32 (rn s p)] w fun e w' => e = .returned (.int .i64 (wd s p)) ∧ w' = w := by
  have hw := wd_eq s p h
  generalize rn s p = r at *
  generalize wd s p = k at *
  clear h
  go_enter Try.func36, Try.ntmps36
  rcases hw with ⟨h1, rfl⟩ | ⟨h1, h2, rfl⟩ | ⟨h1, h2, h3 | h3, rfl⟩ | ⟨h1, h2, rfl⟩
  all_goals
    go_wp2
    go_ret
    exact ⟨rfl, rfl⟩

set_option maxHeartbeats 400000 in
theorem prefix_any (a b : ByteArray) (_ha : a.size ≤ maxLen) (_hb : b.size ≤ maxLen) (w : World) :
    Calls Try.prog 11 #[.string a, .string b] w fun e w' => e = .returned (.bool (isPre a b)) ∧ w' = w := by
  unfold maxLen at _ha _hb
  by_cases h : b.size ≤ a.size
  · have e1 : isPre a b = ((a.extract 0 b.size).toList == b.toList) := by unfold isPre; rw [decide_eq_true h, Bool.true_and]
    rw [e1]; clear e1
    go_enter Try.func11, Try.ntmps11
    go_wp2
    go_ret
    exact ⟨rfl, rfl⟩
  · have e1 : isPre a b = false := by unfold isPre; rw [decide_eq_false h, Bool.false_and]
    rw [e1]; clear e1
    go_enter Try.func11, Try.ntmps11
    go_wp2
    go_ret
    exact ⟨rfl, rfl⟩

set_option maxHeartbeats 400000 in
theorem looseAt_any (s : ByteArray) (p : Nat) (hp : p < s.size) (hs : s.size ≤ maxLen) (w : World) :
    Calls Try.prog 16 #[.string s, .int .i64 p, .int .i32 (rn s p)] w fun e w' => e = .returned (.bool (looseB s p)) ∧ w' = w := by
  have hs' := hs
  unfold maxLen at hs'
  by_cases h : rn s p = 65533
  · have H := isPre_fffd s p hp h
    have hL : looseB s p = !isPre (s.extract p s.size) ⟨#[239, 191, 189]⟩ := by rw [H, Bool.not_not]
    rw [hL, h]
    clear H hL h
    go_enter Try.func16, Try.ntmps16
    go_wp2_with (go_at_call 11; refine (prefix_any (s.extract p s.size) ⟨#[239, 191, 189]⟩ ?_ ?_ _).mono ?_)
    · unfold maxLen; simp; omega
    · show (3 : Nat) ≤ maxLen; unfold maxLen; omega
    rintro e w' ⟨rfl, rfl⟩
    go_wp2
    go_ret
    exact ⟨rfl, rfl⟩
  · have hL : looseB s p = false := by simp [looseB, h]
    have hr : ((rn s p : Int) == 65533) = false := beq_eq_false_iff_ne.2 (by omega)
    rw [hL]
    clear hL h
    go_enter Try.func16, Try.ntmps16
    go_wp2
    go_ret
    exact ⟨rfl, rfl⟩

/-- A character as the program has it. -/
def chV (s : ByteArray) (p : Nat) : Value := .agg #[.int .i32 (rn s p), .int .i64 p, .int .i64 (wd s p), .bool (looseB s p)]

set_option maxHeartbeats 400000 in
theorem charAt_any (s : ByteArray) (p : Nat) (hp : p < s.size) (hs : s.size ≤ maxLen) (w : World) :
    Calls Try.prog 32 #[.string s, .int .i64 p, .int .i32 (rn s p)] w fun e w' => e = .returned (chV s p) ∧ Below w.heap.size w w' := by
  cases hL : looseB s p with
  | true =>
    have h1 : wd s p = 1 := by simp [looseB] at hL; exact hL.2
    go_enter Try.func32, Try.ntmps32
    go_wp2_with (go_at_call 16; refine (looseAt_any s p hp hs _).mono ?_; rintro e w' ⟨rfl, rfl⟩; rw [hL])
    exact bodyPost_ret (v := .agg #[.int .i32 (rn s p), .int .i64 p, .int .i64 1, .bool true]) (by simp [results, Try.results32, go_sem]) rfl ⟨by rw [chV, h1, hL]; rfl, (Below.refl _ _).alloc (Nat.le_refl _) _⟩
  | false =>
    go_enter Try.func32, Try.ntmps32
    go_wp2_with (first | (go_at_call 16; refine (looseAt_any s p hp hs _).mono ?_; rintro e w' ⟨rfl, rfl⟩; rw [hL]) | (go_at_call 36; refine (runeLen_any s p hL _).mono ?_; rintro e w' ⟨rfl, rfl⟩))
    exact bodyPost_ret (v := .agg #[.int .i32 (rn s p), .int .i64 p, .int .i64 (wd s p), .bool false]) (by simp [results, Try.results32, go_sem]) rfl ⟨by rw [chV, hL], (Below.refl _ _).alloc (Nat.le_refl _) _⟩
end Go.Proofs.Ytakobmhnochlhaa
