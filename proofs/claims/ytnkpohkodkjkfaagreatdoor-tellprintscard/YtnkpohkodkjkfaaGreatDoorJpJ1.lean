/- What strings.HasPrefix and glyph.looseAt answer: at every text of at most 2^63 - 1 bytes and every place in it. -/
import Derived.Test.YtnkpohkodkjkfaaGreatDoorProg
import Derived.Test.YtnkpohkodkjkfaaGreatDoorJpJ0
import Derived.Shelf.Abstract
import Derived.Shelf.RegionOpen
import Derived.WalkKit
import Derived.WalkSpells
import Derived.OwnWalkIn
import Derived.TacticsInMore
import Derived.LoopNIn
import Derived.LoopIn
import Derived.Lib.OthersKept
import Derived.Shelf.Strings.Search1
set_option maxHeartbeats 40000000
set_option maxRecDepth 100000
set_option linter.unusedVariables false
namespace Go.Proofs.YtnkpohkodkjkfaaGreatDoor
open Go.RowKit Go.Shelf
attribute [local go_sem] Oper.semAt_some

set_option maxHeartbeats 400000 in
theorem prefix_any (a b : ByteArray) (_ha : a.size ≤ maxLen) (_hb : b.size ≤ maxLen) (w : World) :
    Calls Tryz.prog 86 #[.string a, .string b] w fun e w' => e = .returned (.bool (isPre a b)) ∧ w' = w := by
  unfold maxLen at _ha _hb
  by_cases h : b.size ≤ a.size
  · have e1 : isPre a b = ((a.extract 0 b.size).toList == b.toList) := by unfold isPre; rw [decide_eq_true h, Bool.true_and]
    rw [e1]; clear e1
    go_enter Tryz.func86, Tryz.ntmps86
    go_wp2
    go_ret
    exact ⟨rfl, rfl⟩
  · have e1 : isPre a b = false := by unfold isPre; rw [decide_eq_false h, Bool.false_and]
    rw [e1]; clear e1
    go_enter Tryz.func86, Tryz.ntmps86
    go_wp2
    go_ret
    exact ⟨rfl, rfl⟩

set_option maxHeartbeats 400000 in
theorem looseAt_any (s : ByteArray) (p : Nat) (hp : p < s.size) (hs : s.size ≤ maxLen) (w : World) :
    Calls Tryz.prog 90 #[.string s, .int .i64 p, .int .i32 (rn s p)] w fun e w' => e = .returned (.bool (looseB s p)) ∧ w' = w := by
  have hs' := hs
  unfold maxLen at hs'
  by_cases h : rn s p = 65533
  · have H := isPre_fffd s p hp h
    have hL : looseB s p = !isPre (s.extract p s.size) ⟨#[239, 191, 189]⟩ := by rw [H, Bool.not_not]
    rw [hL, h]
    clear H hL h
    go_enter Tryz.func90, Tryz.ntmps90
    go_wp2_with (go_at_call 86; refine (prefix_any (s.extract p s.size) ⟨#[239, 191, 189]⟩ ?_ ?_ _).mono ?_)
    · unfold maxLen; simp; omega
    · show (3 : Nat) ≤ maxLen; unfold maxLen; omega
    rintro e w' ⟨rfl, rfl⟩
    go_wp2
    go_ret
    exact ⟨rfl, rfl⟩
  · have hL : looseB s p = false := by simp [looseB, h]
    have hr : ((rn s p : Int) == 65533) = false := beq_eq_false_iff_ne.2 (by omega)
    rw [hL]
    clear hL h
    go_enter Tryz.func90, Tryz.ntmps90
    go_wp2
    go_ret
    exact ⟨rfl, rfl⟩
end Go.Proofs.YtnkpohkodkjkfaaGreatDoor
namespace Go.Proofs.YtnkpohkodkjkfaaGreatDoor
open Go.RowKit Go.Shelf
theorem get_new {w : World} {o : Obj} {k : Nat} (h : k = w.heap.size) : (w.alloc o).heap[k]? = some o := by subst h; exact World.alloc_heap_new w o
theorem cell_of {W : World} {B : Nat} {cs : Array Value} {t : TypeId} {z : Nat × Nat} (h : W.heap[B]? = some (.cells cs t z)) (j : Nat) : W.cell? ⟨B, j, none⟩ = cs[j]? := by simp [World.cell?, h]

def ren217 : Go.Shelf.Ren := ⟨fun | 217 => 133 | 266 => 149 | n => n, fun | 3 => 3 | 5 => 5 | 9 => 9 | n => n, fun | n => n⟩
theorem lays217 : Lays.n217 Tryz.prog ren217 := {
  mixed := by kernel_rfl
  f217 := Tryz.func133.trans (congrArg some (by kernel_rfl))
  f266 := Tryz.func149.trans (congrArg some (by kernel_rfl))
  t3 := Tryz.underlying3
  a3 := Tryz.isAgg3
  z3 := Tryz.sizeOf3
  v3 := Tryz.zeroValue3
  t5 := Tryz.underlying5
  a5 := Tryz.isAgg5
  z5 := Tryz.sizeOf5
  v5 := Tryz.zeroValue5
  t9 := Tryz.underlying9
  a9 := Tryz.isAgg9
  z9 := Tryz.sizeOf9
  v9 := Tryz.zeroValue9 }

/-- Where the first line ends; -1: nowhere. -/
def nlAt (s : ByteArray) : Int := Lib.indexByte s.data.toList 10
theorem indexByte_any (s : ByteArray) (w : World) :
    Calls Tryz.prog 133 #[.string s, .int .u8 10] w fun e w' => e = .returned (.int .i64 (nlAt s)) ∧ w' = w := Any.stringslite_IndexByte lays217 s 10 w
set_option maxHeartbeats 1000000 in
set_option maxRecDepth 100000 in
theorem liteIndex_any (s : ByteArray) (w : World) :
    Calls Tryz.prog 112 #[.string s, .string ⟨#[10]⟩] w fun e w' => e = .returned (.int .i64 (nlAt s)) ∧ w' = w := by
  cases hq : (([10] : List UInt8) == s.toList) with
  | true =>
    have HN : Hid (nlAt s = 0) := by
      show nlAt s = 0
      have h := eq_of_beq hq
      rw [Lib.toList_data] at h
      unfold nlAt
      rw [← h]
      rfl
    go_enter Tryz.func112, Tryz.ntmps112
    go_wp2
    go_ret
    rw [HN.out]
    exact ⟨rfl, rfl⟩
  | false =>
    go_enter Tryz.func112, Tryz.ntmps112
    go_wp2_with (go_at_call 133; refine (indexByte_any s _).mono ?_; rintro e w9 ⟨rfl, rfl⟩)
    go_ret
    exact ⟨rfl, rfl⟩
set_option maxHeartbeats 1000000 in
theorem index_any (s : ByteArray) (w : World) :
    Calls Tryz.prog 85 #[.string s, .string ⟨#[10]⟩] w fun e w' => e = .returned (.int .i64 (nlAt s)) ∧ w' = w := by
  go_enter Tryz.func85, Tryz.ntmps85
  go_wp2_with (go_at_call 112; refine (liteIndex_any s _).mono ?_; rintro e w9 ⟨rfl, rfl⟩)
  go_ret
  exact ⟨rfl, rfl⟩
end Go.Proofs.YtnkpohkodkjkfaaGreatDoor
