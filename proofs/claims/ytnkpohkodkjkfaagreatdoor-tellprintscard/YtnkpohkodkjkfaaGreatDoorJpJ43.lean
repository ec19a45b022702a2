/- What is told of a note without fault is read as that note. -/
import Derived.Test.YtnkpohkodkjkfaaGreatDoorJpJ42
import Derived.Test.YtnkpohkodkjkfaaGreatDoorJpJ34
import Derived.Test.YtnkpohkodkjkfaaGreatDoorJpJ3
import Derived.Deep.QuietTactic
import Derived.BigQuiet
import Derived.Test.YtnkpohkodkjkfaaGreatDoorJpJ15
import Derived.Test.YtnkpohkodkjkfaaGreatDoorJpJ12
set_option maxHeartbeats 40000000
set_option maxRecDepth 100000
set_option linter.unusedVariables false
namespace Go.Proofs.YtnkpohkodkjkfaaGreatDoor
open Go.RowKit Go.Shelf Go.Lib

theorem tlT_no {L : List Int} {kd : Nat} {fr rd : Int} {N : Nat} {ns : List N3t} (h : flt kd (L.length : Int) fr rd N ns ≠ 0) : tlT L kd fr rd N ns = ⟨#[]⟩ := if_neg h
end Go.Proofs.YtnkpohkodkjkfaaGreatDoor
namespace Go.Proofs.YtnkpohkodkjkfaaGreatDoor
open Go.RowKit Go.Shelf

/-- A byte of s, as a number. -/
def by8 (s : ByteArray) (i : Nat) : Nat := (s.get! i).toNat
/-- A byte behind the first one of a sequence stands there. -/
def mB (s : ByteArray) (i : Nat) : Bool := decide (i < s.size ∧ 128 ≤ by8 s i ∧ by8 s i ≤ 191)

theorem by8_eq (s : ByteArray) (i : Nat) (h : i < s.size) : by8 s i = (s[i]'h).toNat := by
  unfold by8
  rw [get_eq s i h]
  rfl
theorem ret_boolA {a b : Bool} (h : a = b) : Ending.returned (.bool a) = .returned (.bool b) := by rw [h]

set_option maxHeartbeats 400000 in
theorem more_any (s : ByteArray) (_hs : s.size ≤ maxLen) (i : Nat) (w : World) :
    Calls Tryz.prog 61 #[.string s, .int .i64 i] w fun e w' => e = .returned (.bool (mB s i)) ∧ w' = w := by
  unfold maxLen at _hs
  by_cases h : i < s.size
  · have HB : Hid (by8 s i = (s[i]'h).toNat) := by8_eq s i h
    go_enter Tryz.func61, Tryz.ntmps61
    go_wp2
    all_goals
      go_ret
      refine ⟨ret_boolA ?_, rfl⟩
      unfold mB
      rw [HB.out]
      rw [Bool.eq_iff_iff]
      simp only [decide_eq_true_eq, Bool.false_eq_true, false_iff, h, true_and]
      omega
  · have HB : Hid (mB s i = false) := by show mB s i = false; simp [mB, h]
    go_enter Tryz.func61, Tryz.ntmps61
    go_wp2
    go_ret
    rw [HB.out]
    exact ⟨rfl, rfl⟩

/-- The same of a place that is told as an int. -/
theorem more_at (s : ByteArray) (hs : s.size ≤ maxLen) (k : Nat) (i : Int) (h : i = (k : Int)) (w : World) :
    Calls Tryz.prog 61 #[.string s, .int .i64 i] w fun e w' => e = .returned (.bool (mB s k)) ∧ w' = w := by
  subst h
  exact more_any s hs k w
theorem idx_any (s : ByteArray) (k : Nat) (i : Int) (hi : i = (k : Int)) (hk : k < s.size) (w : World) : (Instr.index 9 (.string s) (.int .i64 i)).run Tryz.prog w = .ok (.int .u8 (s[k]'hk).toNat) w := by
  subst hi
  rw [run_index_string _ _ _ _ _ Tryz.underlying9]
  simp [hk]
theorem mB_in {s : ByteArray} {k : Nat} (h : mB s k = true) : ∃ hk : k < s.size, 128 ≤ (s[k]'hk).toNat ∧ (s[k]'hk).toNat ≤ 191 := by
  unfold mB at h
  rw [decide_eq_true_eq] at h
  obtain ⟨h1, h2, h3⟩ := h
  rw [by8_eq s k h1] at h2 h3
  exact ⟨h1, h2, h3⟩

set_option maxRecDepth 100000 in
set_option maxHeartbeats 2000000 in
theorem at_one (s : ByteArray) (hs' : s.size ≤ 140737488355328) (p : Nat) (hp : p < s.size) (h0 : (s[p]'hp).toNat < 128) (w : World) :
    Calls Tryz.prog 35 #[.string s, .int .i64 p] w fun e w' => e = .returned (.tuple #[.int .i64 (s[p]'hp).toNat, .int .i64 1, .bool false]) ∧ ∃ n, w' = w.drewN n := by
  have hs : s.size ≤ maxLen := by unfold maxLen; omega
  go_enter Tryz.func35, Tryz.ntmps35
  go_wp2
  go_ret3
  exact ⟨rfl, 0, rfl⟩

set_option maxRecDepth 100000 in
set_option maxHeartbeats 2000000 in
theorem at_none (s : ByteArray) (_hs' : s.size ≤ 140737488355328) (p : Nat) (hp : p < s.size) (h0 : 128 ≤ (s[p]'hp).toNat) (h1 : (s[p]'hp).toNat < 194 ∨ 244 < (s[p]'hp).toNat) (w : World) :
    Calls Tryz.prog 35 #[.string s, .int .i64 p] w fun e w' => e = .returned (.tuple #[.int .i64 65533, .int .i64 1, .bool true]) ∧ ∃ n, w' = w.drewN n := by
  have hlt : (s[p]'hp).toNat < 256 := (s[p]'hp).toNat_lt
  rcases h1 with h1 | h1
  all_goals
    go_enter Tryz.func35, Tryz.ntmps35
    go_wp2
    go_ret3
    exact ⟨rfl, 0, rfl⟩

set_option maxRecDepth 100000 in
set_option maxHeartbeats 2000000 in
theorem at_two (s : ByteArray) (hs' : s.size ≤ 140737488355328) (p : Nat) (hp : p < s.size) (h0 : 194 ≤ (s[p]'hp).toNat) (h1 : (s[p]'hp).toNat ≤ 223) (hq : p + 1 < s.size) (k1 : 128 ≤ (s[p + 1]'hq).toNat) (k2 : (s[p + 1]'hq).toNat ≤ 191) (m1 : mB s (p + 1) = true) (w : World) :
    Calls Tryz.prog 35 #[.string s, .int .i64 p] w fun e w' => e = .returned (.tuple #[.int .i64 (((s[p]'hp).toNat - 192) * 64 + (s[p + 1]'hq).toNat - 128 : Int), .int .i64 2, .bool false]) ∧ ∃ n, w' = w.drewN n := by
  have hs : s.size ≤ maxLen := by unfold maxLen; omega
  go_enter Tryz.func35, Tryz.ntmps35
  go_wp2_with fail
  refine (more_at s hs (p + 1) _ (by omega) _).mono ?_
  rintro e w' ⟨rfl, rfl⟩
  rw [m1]
  go_wp2
  go_ret3
  exact ⟨rfl, 0, rfl⟩

set_option maxRecDepth 100000 in
set_option maxHeartbeats 2000000 in
theorem at_two_no (s : ByteArray) (hs' : s.size ≤ 140737488355328) (p : Nat) (hp : p < s.size) (h0 : 194 ≤ (s[p]'hp).toNat) (h1 : (s[p]'hp).toNat ≤ 223) (m1 : mB s (p + 1) = false) (w : World) :
    Calls Tryz.prog 35 #[.string s, .int .i64 p] w fun e w' => e = .returned (.tuple #[.int .i64 65533, .int .i64 1, .bool true]) ∧ ∃ n, w' = w.drewN n := by
  have hs : s.size ≤ maxLen := by unfold maxLen; omega
  go_enter Tryz.func35, Tryz.ntmps35
  go_wp2_with fail
  refine (more_at s hs (p + 1) _ (by omega) _).mono ?_
  rintro e w' ⟨rfl, rfl⟩
  rw [m1]
  go_wp2
  go_ret3
  exact ⟨rfl, 0, rfl⟩

set_option maxRecDepth 100000 in
set_option maxHeartbeats 2000000 in
theorem at_three_no (s : ByteArray) (hs' : s.size ≤ 140737488355328) (p : Nat) (hp : p < s.size) (h0 : 224 ≤ (s[p]'hp).toNat) (h1 : (s[p]'hp).toNat ≤ 239) (m1 : mB s (p + 1) = false) (w : World) :
    Calls Tryz.prog 35 #[.string s, .int .i64 p] w fun e w' => e = .returned (.tuple #[.int .i64 65533, .int .i64 1, .bool true]) ∧ ∃ n, w' = w.drewN n := by
  have hs : s.size ≤ maxLen := by unfold maxLen; omega
  go_enter Tryz.func35, Tryz.ntmps35
  go_wp2_with fail
  refine (more_at s hs (p + 1) _ (by omega) _).mono ?_
  rintro e w' ⟨rfl, rfl⟩
  rw [m1]
  go_wp2
  go_ret3
  exact ⟨rfl, 0, rfl⟩

set_option maxRecDepth 100000 in
set_option maxHeartbeats 2000000 in
theorem at_three_no2 (s : ByteArray) (hs' : s.size ≤ 140737488355328) (p : Nat) (hp : p < s.size) (h0 : 224 ≤ (s[p]'hp).toNat) (h1 : (s[p]'hp).toNat ≤ 239) (m1 : mB s (p + 1) = true) (m2 : mB s (p + 2) = false) (w : World) :
    Calls Tryz.prog 35 #[.string s, .int .i64 p] w fun e w' => e = .returned (.tuple #[.int .i64 65533, .int .i64 1, .bool true]) ∧ ∃ n, w' = w.drewN n := by
  have hs : s.size ≤ maxLen := by unfold maxLen; omega
  go_enter Tryz.func35, Tryz.ntmps35
  go_wp2_with fail
  refine (more_at s hs (p + 1) _ (by omega) _).mono ?_
  rintro e w' ⟨rfl, rfl⟩
  rw [m1]
  go_wp2_with fail
  refine (more_at s hs (p + 2) _ (by omega) _).mono ?_
  rintro e w' ⟨rfl, rfl⟩
  rw [m2]
  go_wp2
  go_ret3
  exact ⟨rfl, 0, rfl⟩

set_option maxRecDepth 100000 in
set_option maxHeartbeats 2000000 in
theorem at_three (s : ByteArray) (hs' : s.size ≤ 140737488355328) (p : Nat) (hp : p < s.size) (h0 : 224 ≤ (s[p]'hp).toNat) (h1 : (s[p]'hp).toNat ≤ 239) (hq : p + 1 < s.size) (k1 : 128 ≤ (s[p + 1]'hq).toNat) (k2 : (s[p + 1]'hq).toNat ≤ 191) (hr : p + 2 < s.size) (k3 : 128 ≤ (s[p + 2]'hr).toNat) (k4 : (s[p + 2]'hr).toNat ≤ 191) (m1 : mB s (p + 1) = true) (m2 : mB s (p + 2) = true) (hv : 2048 ≤ (((s[p]'hp).toNat - 224) * 4096 + ((s[p + 1]'hq).toNat - 128) * 64 + (s[p + 2]'hr).toNat - 128 : Int) ∧ ((((s[p]'hp).toNat - 224) * 4096 + ((s[p + 1]'hq).toNat - 128) * 64 + (s[p + 2]'hr).toNat - 128 : Int) < 55296 ∨ 57343 < (((s[p]'hp).toNat - 224) * 4096 + ((s[p + 1]'hq).toNat - 128) * 64 + (s[p + 2]'hr).toNat - 128 : Int))) (w : World) :
    Calls Tryz.prog 35 #[.string s, .int .i64 p] w fun e w' => e = .returned (.tuple #[.int .i64 (((s[p]'hp).toNat - 224) * 4096 + ((s[p + 1]'hq).toNat - 128) * 64 + (s[p + 2]'hr).toNat - 128 : Int), .int .i64 3, .bool false]) ∧ ∃ n, w' = w.drewN n := by
  have hs : s.size ≤ maxLen := by unfold maxLen; omega
  go_enter Tryz.func35, Tryz.ntmps35
  go_wp2_with fail
  refine (more_at s hs (p + 1) _ (by omega) _).mono ?_
  rintro e w' ⟨rfl, rfl⟩
  rw [m1]
  go_wp2_with fail
  refine (more_at s hs (p + 2) _ (by omega) _).mono ?_
  rintro e w' ⟨rfl, rfl⟩
  rw [m2]
  have i1 := idx_any s (p + 1) (p + 1) (by omega) hq
  have i2 := idx_any s (p + 2) (p + 2) (by omega) hr
  go_wp2_with fail
  go_quiet (fail)
  clear i1 i2
  generalize hrr : (((s[p]'hp).toNat - 224) * 4096 + ((s[p + 1]'hq).toNat - 128) * 64 + (s[p + 2]'hr).toNat - 128 : Int) = r at hv ⊢
  have HR : Hid ((((s[p]'hp).toNat - 224) * 4096 + ((s[p + 1]'hq).toNat - 128) * 64 + (s[p + 2]'hr).toNat - 128 : Int) = r) := hrr
  clear hrr
  rcases hv with ⟨v1, v2 | v2⟩
  all_goals
    go_wp2
    go_ret3
    exact ⟨congrArg (fun z => Ending.returned (.tuple #[.int .i64 z, .int .i64 3, .bool false])) HR.out.symm, nq, rfl⟩

set_option maxRecDepth 100000 in
set_option maxHeartbeats 2000000 in
theorem at_three_bad (s : ByteArray) (hs' : s.size ≤ 140737488355328) (p : Nat) (hp : p < s.size) (h0 : 224 ≤ (s[p]'hp).toNat) (h1 : (s[p]'hp).toNat ≤ 239) (hq : p + 1 < s.size) (k1 : 128 ≤ (s[p + 1]'hq).toNat) (k2 : (s[p + 1]'hq).toNat ≤ 191) (hr : p + 2 < s.size) (k3 : 128 ≤ (s[p + 2]'hr).toNat) (k4 : (s[p + 2]'hr).toNat ≤ 191) (m1 : mB s (p + 1) = true) (m2 : mB s (p + 2) = true) (hv : (((s[p]'hp).toNat - 224) * 4096 + ((s[p + 1]'hq).toNat - 128) * 64 + (s[p + 2]'hr).toNat - 128 : Int) < 2048 ∨ (2048 ≤ (((s[p]'hp).toNat - 224) * 4096 + ((s[p + 1]'hq).toNat - 128) * 64 + (s[p + 2]'hr).toNat - 128 : Int) ∧ 55296 ≤ (((s[p]'hp).toNat - 224) * 4096 + ((s[p + 1]'hq).toNat - 128) * 64 + (s[p + 2]'hr).toNat - 128 : Int) ∧ (((s[p]'hp).toNat - 224) * 4096 + ((s[p + 1]'hq).toNat - 128) * 64 + (s[p + 2]'hr).toNat - 128 : Int) ≤ 57343)) (w : World) :
    Calls Tryz.prog 35 #[.string s, .int .i64 p] w fun e w' => e = .returned (.tuple #[.int .i64 65533, .int .i64 1, .bool true]) ∧ ∃ n, w' = w.drewN n := by
  have hs : s.size ≤ maxLen := by unfold maxLen; omega
  go_enter Tryz.func35, Tryz.ntmps35
  go_wp2_with fail
  refine (more_at s hs (p + 1) _ (by omega) _).mono ?_
  rintro e w' ⟨rfl, rfl⟩
  rw [m1]
  go_wp2_with fail
  refine (more_at s hs (p + 2) _ (by omega) _).mono ?_
  rintro e w' ⟨rfl, rfl⟩
  rw [m2]
  have i1 := idx_any s (p + 1) (p + 1) (by omega) hq
  have i2 := idx_any s (p + 2) (p + 2) (by omega) hr
  go_wp2_with fail
  go_quiet (fail)
  clear i1 i2
  generalize (((s[p]'hp).toNat - 224) * 4096 + ((s[p + 1]'hq).toNat - 128) * 64 + (s[p + 2]'hr).toNat - 128 : Int) = r at *
  rcases hv with v1 | ⟨v1, v2, v3⟩
  all_goals
    go_wp2
    go_ret3
    exact ⟨rfl, nq, rfl⟩

set_option maxRecDepth 100000 in
set_option maxHeartbeats 2000000 in
theorem at_four_no (s : ByteArray) (hs' : s.size ≤ 140737488355328) (p : Nat) (hp : p < s.size) (h0 : 240 ≤ (s[p]'hp).toNat) (h1 : (s[p]'hp).toNat ≤ 244) (m1 : mB s (p + 1) = false) (w : World) :
    Calls Tryz.prog 35 #[.string s, .int .i64 p] w fun e w' => e = .returned (.tuple #[.int .i64 65533, .int .i64 1, .bool true]) ∧ ∃ n, w' = w.drewN n := by
  have hs : s.size ≤ maxLen := by unfold maxLen; omega
  go_enter Tryz.func35, Tryz.ntmps35
  go_wp2_with fail
  refine (more_at s hs (p + 1) _ (by omega) _).mono ?_
  rintro e w' ⟨rfl, rfl⟩
  rw [m1]
  go_wp2
  go_ret3
  exact ⟨rfl, 0, rfl⟩

set_option maxRecDepth 100000 in
set_option maxHeartbeats 2000000 in
theorem at_four_no2 (s : ByteArray) (hs' : s.size ≤ 140737488355328) (p : Nat) (hp : p < s.size) (h0 : 240 ≤ (s[p]'hp).toNat) (h1 : (s[p]'hp).toNat ≤ 244) (m1 : mB s (p + 1) = true) (m2 : mB s (p + 2) = false) (w : World) :
    Calls Tryz.prog 35 #[.string s, .int .i64 p] w fun e w' => e = .returned (.tuple #[.int .i64 65533, .int .i64 1, .bool true]) ∧ ∃ n, w' = w.drewN n := by
  have hs : s.size ≤ maxLen := by unfold maxLen; omega
  go_enter Tryz.func35, Tryz.ntmps35
  go_wp2_with fail
  refine (more_at s hs (p + 1) _ (by omega) _).mono ?_
  rintro e w' ⟨rfl, rfl⟩
  rw [m1]
  go_wp2_with fail
  refine (more_at s hs (p + 2) _ (by omega) _).mono ?_
  rintro e w' ⟨rfl, rfl⟩
  rw [m2]
  go_wp2
  go_ret3
  exact ⟨rfl, 0, rfl⟩

set_option maxRecDepth 100000 in
set_option maxHeartbeats 2000000 in
theorem at_four_no3 (s : ByteArray) (hs' : s.size ≤ 140737488355328) (p : Nat) (hp : p < s.size) (h0 : 240 ≤ (s[p]'hp).toNat) (h1 : (s[p]'hp).toNat ≤ 244) (m1 : mB s (p + 1) = true) (m2 : mB s (p + 2) = true) (m3 : mB s (p + 3) = false) (w : World) :
    Calls Tryz.prog 35 #[.string s, .int .i64 p] w fun e w' => e = .returned (.tuple #[.int .i64 65533, .int .i64 1, .bool true]) ∧ ∃ n, w' = w.drewN n := by
  have hs : s.size ≤ maxLen := by unfold maxLen; omega
  go_enter Tryz.func35, Tryz.ntmps35
  go_wp2_with fail
  refine (more_at s hs (p + 1) _ (by omega) _).mono ?_
  rintro e w' ⟨rfl, rfl⟩
  rw [m1]
  go_wp2_with fail
  refine (more_at s hs (p + 2) _ (by omega) _).mono ?_
  rintro e w' ⟨rfl, rfl⟩
  rw [m2]
  go_wp2_with fail
  refine (more_at s hs (p + 3) _ (by omega) _).mono ?_
  rintro e w' ⟨rfl, rfl⟩
  rw [m3]
  go_wp2
  go_ret3
  exact ⟨rfl, 0, rfl⟩

set_option maxRecDepth 100000 in
set_option maxHeartbeats 2000000 in
theorem at_four (s : ByteArray) (hs' : s.size ≤ 140737488355328) (p : Nat) (hp : p < s.size) (h0 : 240 ≤ (s[p]'hp).toNat) (h1 : (s[p]'hp).toNat ≤ 244) (hq : p + 1 < s.size) (k1 : 128 ≤ (s[p + 1]'hq).toNat) (k2 : (s[p + 1]'hq).toNat ≤ 191) (hr : p + 2 < s.size) (k3 : 128 ≤ (s[p + 2]'hr).toNat) (k4 : (s[p + 2]'hr).toNat ≤ 191) (ht : p + 3 < s.size) (k5 : 128 ≤ (s[p + 3]'ht).toNat) (k6 : (s[p + 3]'ht).toNat ≤ 191) (m1 : mB s (p + 1) = true) (m2 : mB s (p + 2) = true) (m3 : mB s (p + 3) = true) (hv : 65536 ≤ (((s[p]'hp).toNat - 240) * 262144 + ((s[p + 1]'hq).toNat - 128) * 4096 + ((s[p + 2]'hr).toNat - 128) * 64 + (s[p + 3]'ht).toNat - 128 : Int) ∧ (((s[p]'hp).toNat - 240) * 262144 + ((s[p + 1]'hq).toNat - 128) * 4096 + ((s[p + 2]'hr).toNat - 128) * 64 + (s[p + 3]'ht).toNat - 128 : Int) ≤ 1114111) (w : World) :
    Calls Tryz.prog 35 #[.string s, .int .i64 p] w fun e w' => e = .returned (.tuple #[.int .i64 (((s[p]'hp).toNat - 240) * 262144 + ((s[p + 1]'hq).toNat - 128) * 4096 + ((s[p + 2]'hr).toNat - 128) * 64 + (s[p + 3]'ht).toNat - 128 : Int), .int .i64 4, .bool false]) ∧ ∃ n, w' = w.drewN n := by
  have hs : s.size ≤ maxLen := by unfold maxLen; omega
  go_enter Tryz.func35, Tryz.ntmps35
  go_wp2_with fail
  refine (more_at s hs (p + 1) _ (by omega) _).mono ?_
  rintro e w' ⟨rfl, rfl⟩
  rw [m1]
  go_wp2_with fail
  refine (more_at s hs (p + 2) _ (by omega) _).mono ?_
  rintro e w' ⟨rfl, rfl⟩
  rw [m2]
  go_wp2_with fail
  refine (more_at s hs (p + 3) _ (by omega) _).mono ?_
  rintro e w' ⟨rfl, rfl⟩
  rw [m3]
  have i1 := idx_any s (p + 1) (p + 1) (by omega) hq
  have i2 := idx_any s (p + 2) (p + 2) (by omega) hr
  have i3 := idx_any s (p + 3) (p + 3) (by omega) ht
  go_wp2_with fail
  go_quiet (fail)
  clear i1 i2 i3
  generalize hrr : (((s[p]'hp).toNat - 240) * 262144 + ((s[p + 1]'hq).toNat - 128) * 4096 + ((s[p + 2]'hr).toNat - 128) * 64 + (s[p + 3]'ht).toNat - 128 : Int) = r at hv ⊢
  have HR : Hid ((((s[p]'hp).toNat - 240) * 262144 + ((s[p + 1]'hq).toNat - 128) * 4096 + ((s[p + 2]'hr).toNat - 128) * 64 + (s[p + 3]'ht).toNat - 128 : Int) = r) := hrr
  clear hrr
  obtain ⟨v1, v2⟩ := hv
  go_wp2
  go_ret3
  exact ⟨congrArg (fun z => Ending.returned (.tuple #[.int .i64 z, .int .i64 4, .bool false])) HR.out.symm, nq, rfl⟩

set_option maxRecDepth 100000 in
set_option maxHeartbeats 2000000 in
theorem at_four_bad (s : ByteArray) (hs' : s.size ≤ 140737488355328) (p : Nat) (hp : p < s.size) (h0 : 240 ≤ (s[p]'hp).toNat) (h1 : (s[p]'hp).toNat ≤ 244) (hq : p + 1 < s.size) (k1 : 128 ≤ (s[p + 1]'hq).toNat) (k2 : (s[p + 1]'hq).toNat ≤ 191) (hr : p + 2 < s.size) (k3 : 128 ≤ (s[p + 2]'hr).toNat) (k4 : (s[p + 2]'hr).toNat ≤ 191) (ht : p + 3 < s.size) (k5 : 128 ≤ (s[p + 3]'ht).toNat) (k6 : (s[p + 3]'ht).toNat ≤ 191) (m1 : mB s (p + 1) = true) (m2 : mB s (p + 2) = true) (m3 : mB s (p + 3) = true) (hv : (((s[p]'hp).toNat - 240) * 262144 + ((s[p + 1]'hq).toNat - 128) * 4096 + ((s[p + 2]'hr).toNat - 128) * 64 + (s[p + 3]'ht).toNat - 128 : Int) < 65536 ∨ (65536 ≤ (((s[p]'hp).toNat - 240) * 262144 + ((s[p + 1]'hq).toNat - 128) * 4096 + ((s[p + 2]'hr).toNat - 128) * 64 + (s[p + 3]'ht).toNat - 128 : Int) ∧ 1114111 < (((s[p]'hp).toNat - 240) * 262144 + ((s[p + 1]'hq).toNat - 128) * 4096 + ((s[p + 2]'hr).toNat - 128) * 64 + (s[p + 3]'ht).toNat - 128 : Int))) (w : World) :
    Calls Tryz.prog 35 #[.string s, .int .i64 p] w fun e w' => e = .returned (.tuple #[.int .i64 65533, .int .i64 1, .bool true]) ∧ ∃ n, w' = w.drewN n := by
  have hs : s.size ≤ maxLen := by unfold maxLen; omega
  go_enter Tryz.func35, Tryz.ntmps35
  go_wp2_with fail
  refine (more_at s hs (p + 1) _ (by omega) _).mono ?_
  rintro e w' ⟨rfl, rfl⟩
  rw [m1]
  go_wp2_with fail
  refine (more_at s hs (p + 2) _ (by omega) _).mono ?_
  rintro e w' ⟨rfl, rfl⟩
  rw [m2]
  go_wp2_with fail
  refine (more_at s hs (p + 3) _ (by omega) _).mono ?_
  rintro e w' ⟨rfl, rfl⟩
  rw [m3]
  have i1 := idx_any s (p + 1) (p + 1) (by omega) hq
  have i2 := idx_any s (p + 2) (p + 2) (by omega) hr
  have i3 := idx_any s (p + 3) (p + 3) (by omega) ht
  go_wp2_with fail
  go_quiet (fail)
  clear i1 i2 i3
  generalize (((s[p]'hp).toNat - 240) * 262144 + ((s[p + 1]'hq).toNat - 128) * 4096 + ((s[p + 2]'hr).toNat - 128) * 64 + (s[p + 3]'ht).toNat - 128 : Int) = r at *
  rcases hv with v1 | ⟨v1, v2⟩
  all_goals
    go_wp2
    go_ret3
    exact ⟨rfl, nq, rfl⟩

/-- At answers the character that begins there. -/
theorem at_any (s : ByteArray) (hs : s.size ≤ 140737488355328) (p : Nat) (hp : p < s.size) (w : World) :
    Calls Tryz.prog 35 #[.string s, .int .i64 p] w fun e w' => e = .returned (.tuple #[.int .i64 (rn s p), .int .i64 (wdt s p), .bool (looseB s p)]) ∧ ∃ n, w' = w.drewN n := by
  have b0 : by8 s p = (s[p]'hp).toNat := by8_eq s p hp
  have hsh : Utf8.decode s p = Lib.decodeN (s.size - p) (by8 s p) (by8 s (p + 1)) (by8 s (p + 2)) (by8 s (p + 3)) := shape s p
  have hlt : by8 s p < 256 := (s.get! p).toNat_lt
  have loose : Utf8.decode s p = (65533, 1) → (Calls Tryz.prog 35 #[.string s, .int .i64 p] w fun e w' => e = .returned (.tuple #[.int .i64 65533, .int .i64 1, .bool true]) ∧ ∃ n, w' = w.drewN n) →
      Calls Tryz.prog 35 #[.string s, .int .i64 p] w fun e w' => e = .returned (.tuple #[.int .i64 (rn s p), .int .i64 (wdt s p), .bool (looseB s p)]) ∧ ∃ n, w' = w.drewN n := by
    intro hd hc
    have e1 : rn s p = 65533 := by unfold rn; rw [hd]
    have e2 : wdt s p = 1 := by unfold wdt; rw [hd]
    have e3 : looseB s p = true := by unfold looseB; rw [e1, e2]; rfl
    rw [e1, e2, e3]
    exact hc
  have whole : ∀ (r k : Nat) (z : Int), Utf8.decode s p = (r, k) → z = (r : Int) → (r ≠ 65533 ∨ k ≠ 1) → (Calls Tryz.prog 35 #[.string s, .int .i64 p] w fun e w' => e = .returned (.tuple #[.int .i64 z, .int .i64 k, .bool false]) ∧ ∃ n, w' = w.drewN n) →
      Calls Tryz.prog 35 #[.string s, .int .i64 p] w fun e w' => e = .returned (.tuple #[.int .i64 (rn s p), .int .i64 (wdt s p), .bool (looseB s p)]) ∧ ∃ n, w' = w.drewN n := by
    intro r k z hd hz hne hc
    have e1 : rn s p = r := by unfold rn; rw [hd]
    have e2 : wdt s p = k := by unfold wdt; rw [hd]
    have e3 : looseB s p = false := by unfold looseB; rw [e1, e2, decide_eq_false_iff_not]; omega
    rw [e1, e2, e3, ← hz]
    exact hc
  have mn : ∀ k, mB s (p + k) = false → p + k < s.size → by8 s (p + k) < 256 → by8 s (p + k) / 64 ≠ 2 := by
    intro k hm hk hl
    unfold mB at hm
    rw [decide_eq_false_iff_not] at hm
    omega
  have k1 : by8 s (p + 1) < 256 := (s.get! (p + 1)).toNat_lt
  have k2 : by8 s (p + 2) < 256 := (s.get! (p + 2)).toNat_lt
  have k3 : by8 s (p + 3) < 256 := (s.get! (p + 3)).toNat_lt
  by_cases c1 : by8 s p < 128
  · refine whole (by8 s p) 1 ((s[p]'hp).toNat : Int) ?_ (by omega) (by omega) (at_one s hs p hp (by omega) w)
    rw [hsh]; simp [Lib.decodeN, c1]
  by_cases c2 : by8 s p < 194 ∨ 244 < by8 s p
  · refine loose ?_ (at_none s hs p hp (by omega) (by omega) w)
    rw [hsh]
    rcases Lib.decodeN_shape (s.size - p) (by8 s p) (by8 s (p + 1)) (by8 s (p + 2)) (by8 s (p + 3)) with ⟨c, e⟩ | ⟨d1, d2, d3, dv, e⟩ | ⟨d1, d2, d3, d4, dv, ds, e⟩ | ⟨d1, d2, d3, d4, d5, dv, dw, e⟩ | e
    · omega
    · omega
    · omega
    · omega
    · exact e
  have d1 : ¬ by8 s p < 128 := c1
  by_cases c3 : by8 s p ≤ 223
  · cases m1 : mB s (p + 1) with
    | true =>
      obtain ⟨hq, g1, g2⟩ := mB_in m1
      have b1 := by8_eq s (p + 1) hq
      refine whole (by8 s p % 32 * 64 + by8 s (p + 1) % 64) 2 _ ?_ ?_ (by omega) (at_two s hs p hp (by omega) (by omega) hq g1 g2 m1 w)
      · rw [hsh]; unfold Lib.decodeN; rw [if_neg (by omega), if_pos (by omega), if_pos (by omega)]
      · omega
    | false =>
      refine loose ?_ (at_two_no s hs p hp (by omega) (by omega) m1 w)
      have := mn 1 m1
      rw [hsh]; unfold Lib.decodeN; rw [if_neg (by omega), if_neg (by omega), if_neg (by omega), if_neg (by omega)]
  by_cases c4 : by8 s p ≤ 239
  · cases m1 : mB s (p + 1) with
    | false =>
      refine loose ?_ (at_three_no s hs p hp (by omega) (by omega) m1 w)
      have := mn 1 m1
      rw [hsh]; unfold Lib.decodeN; rw [if_neg (by omega), if_neg (by omega), if_neg (by omega), if_neg (by omega)]
    | true =>
      obtain ⟨hq, g1, g2⟩ := mB_in m1
      have b1 := by8_eq s (p + 1) hq
      cases m2 : mB s (p + 2) with
      | false =>
        refine loose ?_ (at_three_no2 s hs p hp (by omega) (by omega) m1 m2 w)
        have := mn 2 m2
        rw [hsh]; unfold Lib.decodeN; rw [if_neg (by omega), if_neg (by omega), if_neg (by omega), if_neg (by omega)]
      | true =>
        obtain ⟨hr, g3, g4⟩ := mB_in m2
        have b2 := by8_eq s (p + 2) hr
        by_cases hv : 2048 ≤ by8 s p % 16 * 4096 + by8 s (p + 1) % 64 * 64 + by8 s (p + 2) % 64 ∧ (by8 s p % 16 * 4096 + by8 s (p + 1) % 64 * 64 + by8 s (p + 2) % 64 < 55296 ∨ 57343 < by8 s p % 16 * 4096 + by8 s (p + 1) % 64 * 64 + by8 s (p + 2) % 64)
        · refine whole (by8 s p % 16 * 4096 + by8 s (p + 1) % 64 * 64 + by8 s (p + 2) % 64) 3 _ ?_ ?_ (by omega) (at_three s hs p hp (by omega) (by omega) hq g1 g2 hr g3 g4 m1 m2 (by omega) w)
          · rw [hsh]; unfold Lib.decodeN; rw [if_neg (by omega), if_neg (by omega), if_pos (by omega), if_pos (by omega)]
          · omega
        · refine loose ?_ (at_three_bad s hs p hp (by omega) (by omega) hq g1 g2 hr g3 g4 m1 m2 (by omega) w)
          rw [hsh]; unfold Lib.decodeN; rw [if_neg (by omega), if_neg (by omega), if_pos (by omega), if_neg (by omega)]
  · cases m1 : mB s (p + 1) with
    | false =>
      refine loose ?_ (at_four_no s hs p hp (by omega) (by omega) m1 w)
      have := mn 1 m1
      rw [hsh]; unfold Lib.decodeN; rw [if_neg (by omega), if_neg (by omega), if_neg (by omega), if_neg (by omega)]
    | true =>
      obtain ⟨hq, g1, g2⟩ := mB_in m1
      have b1 := by8_eq s (p + 1) hq
      cases m2 : mB s (p + 2) with
      | false =>
        refine loose ?_ (at_four_no2 s hs p hp (by omega) (by omega) m1 m2 w)
        have := mn 2 m2
        rw [hsh]; unfold Lib.decodeN; rw [if_neg (by omega), if_neg (by omega), if_neg (by omega), if_neg (by omega)]
      | true =>
        obtain ⟨hr, g3, g4⟩ := mB_in m2
        have b2 := by8_eq s (p + 2) hr
        cases m3 : mB s (p + 3) with
        | false =>
          refine loose ?_ (at_four_no3 s hs p hp (by omega) (by omega) m1 m2 m3 w)
          have := mn 3 m3
          rw [hsh]; unfold Lib.decodeN; rw [if_neg (by omega), if_neg (by omega), if_neg (by omega), if_neg (by omega)]
        | true =>
          obtain ⟨ht, g5, g6⟩ := mB_in m3
          have b3 := by8_eq s (p + 3) ht
          by_cases hv : 65536 ≤ by8 s p % 8 * 262144 + by8 s (p + 1) % 64 * 4096 + by8 s (p + 2) % 64 * 64 + by8 s (p + 3) % 64 ∧ by8 s p % 8 * 262144 + by8 s (p + 1) % 64 * 4096 + by8 s (p + 2) % 64 * 64 + by8 s (p + 3) % 64 ≤ 1114111
          · refine whole (by8 s p % 8 * 262144 + by8 s (p + 1) % 64 * 4096 + by8 s (p + 2) % 64 * 64 + by8 s (p + 3) % 64) 4 _ ?_ ?_ (by omega) (at_four s hs p hp (by omega) (by omega) hq g1 g2 hr g3 g4 ht g5 g6 m1 m2 m3 (by omega) w)
            · rw [hsh]; unfold Lib.decodeN; rw [if_neg (by omega), if_neg (by omega), if_neg (by omega), if_pos (by omega), if_pos (by omega)]
            · omega
          · refine loose ?_ (at_four_bad s hs p hp (by omega) (by omega) hq g1 g2 hr g3 g4 ht g5 g6 m1 m2 m3 (by omega) w)
            rw [hsh]; unfold Lib.decodeN; rw [if_neg (by omega), if_neg (by omega), if_neg (by omega), if_pos (by omega), if_neg (by omega)]
end Go.Proofs.YtnkpohkodkjkfaaGreatDoor
namespace Go.Proofs.YtnkpohkodkjkfaaGreatDoor
open Go.RowKit Go.Shelf Go.Lib

/-- A slice of ints that holds these, all below M. -/
def RdI (M : Nat) (W : World) (v : Value) (l : List Int) : Prop := ∃ ad cap, v = .slice ad l.length cap ∧ (l ≠ [] → ∃ g, ad = some ⟨g, 0, none⟩ ∧ g < M ∧ l.length ≤ cap ∧ ∀ j x, l[j]? = some x → W.cell? ⟨g, j, none⟩ = some (.int .i64 x))
/-- The document's roster of these signs. -/
def RosR (M : Nat) (W : World) (v : Value) (l : List Int) : Prop := Signs l ∧ ∃ sl, v = .agg #[sl] ∧ RdI M W sl l
theorem RdI.below {M : Nat} {W W' : World} {v : Value} {l : List Int} (h : RdI M W v l) (hb : Below M W W') : RdI M W' v l := by
  obtain ⟨ad, cap, rfl, hf⟩ := h
  refine ⟨ad, cap, rfl, fun hl => ?_⟩
  obtain ⟨g, rfl, h2, h3, h4⟩ := hf hl
  exact ⟨g, rfl, h2, h3, fun j x hj => (hb.cell (p := ⟨g, j, none⟩) h2).trans (h4 j x hj)⟩
theorem RosR.below {M : Nat} {W W' : World} {v : Value} {l : List Int} (h : RosR M W v l) (hb : Below M W W') : RosR M W' v l := by
  obtain ⟨h0, sl, rfl, h1⟩ := h
  exact ⟨h0, sl, rfl, h1.below hb⟩
theorem rosR_nil (M : Nat) (W : World) : RosR M W (.agg #[.slice none 0 0]) [] := ⟨signs_nil, _, rfl, ⟨none, 0, rfl, fun h => absurd rfl h⟩⟩
theorem RosR.form {M : Nat} {W : World} {v : Value} {l : List Int} (h : RosR M W v l) : ∃ ad cap, v = .agg #[.slice ad l.length cap] := by
  obtain ⟨_, sl, rfl, ⟨ad, cap, rfl, _⟩⟩ := h
  exact ⟨ad, cap, rfl⟩
theorem RosR.call {M : Nat} {W W' : World} {v : Value} {l : List Int} (h : RosR M W v l) (hM : M ≤ W.heap.size) (hb : Below W.heap.size W W') : RosR M W' v l := h.below (hb.mono hM)
def numsV (l : List Int) : List Value := l.map (.int .i64)
theorem RdI.of {w : World} {base : Nat} {v : Value} {l : List Int} (h : w.ownsRow base 3 1 v l.length (numsV l)) : RdI w.heap.size w v l := by
  obtain ⟨ad, cap, rfl, hf⟩ := row_form h
  refine ⟨ad, cap, rfl, fun hl => ?_⟩
  obtain ⟨g, rfl, _, h2, h3, h4⟩ := hf (List.length_pos_iff.2 hl)
  exact ⟨g, rfl, h2, h3, fun j x hj => h4 j _ (by simp [numsV, hj])⟩

theorem idxOf_at : ∀ (l : List Int) (k : Nat) (r : Int), l[k]? = some r → (∀ j, j < k → l[j]? ≠ some r) → l.idxOf r = k
  | a :: l, 0, r, h, _ => by simp at h; subst h; simp
  | a :: l, k + 1, r, h, hn => by
    have h0 : a ≠ r := by simpa using hn 0 (by omega)
    rw [List.idxOf_cons, beq_false_of_ne h0, idxOf_at l k r (by simpa using h) (fun j hj => by simpa using hn (j + 1) (by omega))]
    rfl
/-- What find answers. -/
def findV (l : List Int) (r : Int) : Int := if r ∈ l then (l.idxOf r : Int) else -1
theorem findV_hit {l : List Int} {k : Nat} {r : Int} (h : l[k]? = some r) (hn : ∀ j, j < k → l[j]? ≠ some r) : findV l r = k := by
  unfold findV
  rw [if_pos (List.mem_of_getElem? h), idxOf_at l k r h hn]
theorem findV_miss {l : List Int} {r : Int} (hn : ∀ j, j < l.length → l[j]? ≠ some r) : findV l r = -1 := by
  unfold findV
  rw [if_neg]
  intro h
  obtain ⟨k, hk⟩ := List.getElem?_of_mem h
  exact hn k (List.getElem?_eq_some_iff.1 hk).1 hk
set_option maxHeartbeats 1000000 in
theorem find_any {M : Nat} {v : Value} {l : List Int} (w : World) (h : RdI M w v l) (hM : M ≤ w.heap.size) (hl : l.length ≤ 100) (r : Int) : Calls Tryz.prog 37 #[v, .int .i64 r] w fun e w' => e = .returned (.int .i64 (findV l r)) ∧ w' = w := by
  obtain ⟨ad, cap, rfl, hf⟩ := h
  go_enter Tryz.func37, Tryz.ntmps37
  go_wp2
  go_loopw [5] (fun c wr => ∃ k : Nat, c = .int .i64 k ∧ k ≤ l.length ∧ Hid (∀ j, j < k → l[j]? ≠ some r) ∧ wr = w) (fun c _ => l.length - (Go.RowKit.intOf c).toNat)
  case atStart =>
    have h0 : Hid (∀ j, j < 0 → l[j]? ≠ some r) := fun j hj => absurd hj (by omega)
    exact ⟨0, rfl, by omega, h0, rfl⟩
  case round =>
    obtain ⟨k, rfl, hk, hno, rfl⟩ := hrel
    by_cases hkl : k < l.length
    · obtain ⟨g, rfl, g1, g2, g3⟩ := hf (fun e => by subst e; simp at hkl)
      have gk := g3 k l[k] (List.getElem?_eq_getElem hkl)
      have HK : Hid (l[k]? = some l[k]) := List.getElem?_eq_getElem hkl
      have hgl : g < wr.heap.size := by omega
      clear hf g3
      generalize l[k] = x at *
      by_cases hx : x = r
      · subst hx
        have HF : Hid (findV l x = k) := findV_hit HK.out hno.out
        go_wp2
        go_ret
        rw [HF.out]
        exact ⟨rfl, rfl⟩
      · have hq : (x == r) = false := beq_eq_false_iff_ne.2 hx
        have hno2 : Hid (∀ j, j < k + 1 → l[j]? ≠ some r) := fun j hj => by
          by_cases e : j = k
          · subst e; rw [HK.out]; intro e; cases e; exact hx rfl
          · exact hno.out j (by omega)
        clear hx
        go_wp2
        go_roundw
        case rel => exact ⟨k + 1, by simp, by omega, hno2, trivial⟩
        case measure => simp [Go.RowKit.intOf]; omega
    · have hkk : k = l.length := by omega
      subst hkk
      have HF : Hid (findV l r = -1) := findV_miss hno.out
      clear hf
      go_wp2
      go_ret
      rw [HF.out]
      exact ⟨rfl, rfl⟩
theorem infoI : (Tryz.prog.info? 3).map (fun i => (i.zero, i.size, i.bytes)) = some (some (.int .i64 0), 1, 8) := by kernel_rfl
theorem ret_rosR {f : Func} {p q r : Tmp} {R : Ending → World → Prop} {a : Act} {w : World} {b : Nat} {u x y : Value} (hres : f.results = #[.cell p 60, .tmp q, .tmp r]) (hp : a.tmps.getD p undef = .pointer (some ⟨b, 0, none⟩)) (hq : a.tmps.getD q undef = x) (hr : a.tmps.getD r undef = y) (hd : a.defers = [])
    (h : w.heap[b]? = some (.cells #[u] 60 (0, 0))) (hR : R (.returned (.tuple #[.agg #[u], x, y])) w) : bodyPost Tryz.prog f R .ret a w := by
  refine bodyPost_ret (v := .tuple #[.agg #[u], x, y]) ?_ hd hR
  have h1 := run_loadVar_row (P := Tryz.prog) w b 60 60 #[u] (0, 0) _ h Tryz.underlying60 rfl (by kernel_rfl)
  have hp' : a.tmps[p]?.getD undef = .pointer (some ⟨b, 0, none⟩) := by simpa using hp
  have hq' : a.tmps[q]?.getD undef = x := by simpa using hq
  have hr' : a.tmps[r]?.getD undef = y := by simpa using hr
  simp [results, hres, hp', hq', hr', asAddr, h1]
/-- What Read answers, and where it lies. -/
def RdR (s : ByteArray) (e : Ending) (W : World) : Prop := ∃ v, e = .returned (.tuple #[v, .int .i64 (readR s).2.1, .int .i64 (readR s).2.2]) ∧ RosR W.heap.size W v (readR s).1
theorem rdR_nil {s : ByteArray} {x y : Int} (h : readR s = ([], x, y)) (W : World) : RdR s (.returned (.tuple #[.agg #[.slice none 0 0], .int .i64 x, .int .i64 y])) W := ⟨_, by rw [h], by rw [h]; exact rosR_nil _ _⟩
theorem at_below (s : ByteArray) (hs : s.size ≤ 65536) (p : Nat) (hp : p < s.size) (w : World) : Calls Tryz.prog 35 #[.string s, .int .i64 p] w fun e w' => e = .returned (.tuple #[.int .i64 (rn s p), .int .i64 (wdt s p), .bool (looseB s p)]) ∧ Below w.heap.size w w' := by
  refine (at_any s (by omega) p hp w).mono ?_
  rintro e w' ⟨he, n, rfl⟩
  exact ⟨he, ⟨rfl, rfl, rfl, Nat.le_refl _, fun _ _ => rfl⟩⟩

set_option maxHeartbeats 4000000 in
set_option maxRecDepth 100000 in
theorem rRead_any (s : ByteArray) (hs : s.size ≤ maxLen) (w : World) : Calls Tryz.prog 17 #[.string s] w fun e w' => RdR s e w' ∧ Below w.heap.size w w' := by
  unfold maxLen at hs
  by_cases h1 : 65536 < s.size
  · have HR : Hid (readR s = ([], 0, 2)) := by show readR s = _; rw [readR, if_pos h1]
    go_enter Tryz.func17, Tryz.ntmps17
    go_wp2
    exact ret_rosR rfl rfl rfl rfl rfl (new_at rfl) ⟨rdR_nil HR.out _, (Below.refl _ w).alloc (Nat.le_refl _) _⟩
  have hs16 : s.size ≤ 65536 := by omega
  obtain ⟨ic, hic, hz0, hz1, hz2⟩ := info_parts infoI
  go_enter Tryz.func17, Tryz.ntmps17
  go_wp2
  go_loopw [5, 6] (fun o c wr => ∃ (pos fuel : Nat) (l : List Int), Hid (rdGo l (charsFrom s fuel pos) = rdGo [] (charsOf s)) ∧ s.size ≤ pos + fuel ∧ (pos = 0 ∨ l ≠ []) ∧ Signs l ∧ c = .int .i64 pos ∧ pos ≤ s.size ∧ wr.ownsRow (w.heap.size + 1) 3 1 o l.length (numsV l) ∧ wr.heap[w.heap.size]? = some (.cells #[.slice none 0 0] 60 (0, 0)) ∧ Below w.heap.size w wr) (fun _ c _ => s.size - (Go.RowKit.intOf c).toNat)
  case atStart =>
    have hr : Hid (rdGo [] (charsFrom s s.size 0) = rdGo [] (charsOf s)) := rfl
    exact ⟨0, s.size, [], hr, by omega, .inl rfl, signs_nil, rfl, by omega, ⟨rfl, .inl ⟨rfl, rfl⟩⟩, new_at rfl, (Below.refl _ w).alloc (Nat.le_refl _) _⟩
  case round =>
    obtain ⟨pos, fuel, l, hgo, hfu, hne, hsg, rfl, hps, hrow, hres, hbw⟩ := hrel
    have hls := hsg.short
    have hlt := lt_at hres
    obtain ⟨ad, cap, rfl, hform⟩ := row_form hrow
    have d0 := cell_at hres 0
    have d1 := thaw_at hres 0
    by_cases hp : pos < s.size
    · have hwd := wdt_pos s pos
      have hwl := wdt_le s pos hp
      have hrn := rn_le s pos
      have hpi : (pos : Int) < (s.size : Int) := by omega
      obtain ⟨f, rfl⟩ : ∃ f, fuel = f + 1 := ⟨fuel - 1, by omega⟩
      rw [charsFrom_step s f pos hp] at hgo
      have HR2 : Hid (readR s = rdGo l ((rn s pos : Int) :: charsFrom s f (pos + wdt s pos))) := by
        show readR s = _
        rw [readR, if_neg h1, if_neg (by omega)]
        exact hgo.out.symm
      have hat := at_below s hs16 pos hp wr
      have hcl := refClass_any (rn s pos : Int)
      have hfi := fun (W : World) (hb : Below wr.heap.size wr W) => find_any W ((RdI.of hrow).below hb) hb.size hls (rn s pos : Int)
      by_cases q1 : cls (rn s pos : Int) = 4
      · rw [loose_no_letter q1] at hat
        rw [q1] at hcl
        by_cases q2 : (rn s pos : Int) ∈ l
        · have HE : Hid (readR s = ([], (l.length : Int), 42)) := by
            have := HR2.out
            rw [rdGo, if_pos q1, if_pos q2] at this
            exact this
          have hfv : findV l (rn s pos : Int) = ((l.idxOf (rn s pos : Int) : Nat) : Int) := by rw [findV, if_pos q2]
          simp only [hfv] at hfi
          clear HR2 hgo q1 q2 hfv
          generalize l.idxOf (rn s pos : Int) = k at *
          generalize (rn s pos : Int) = c at *
          go_wp2_with (first | (go_at_call 35; refine hat.mono ?_; rintro e W1 ⟨rfl, hb1⟩; have hsz1 := hb1.size; have e0 := (hb1.block _ hlt).trans hres; have e1 := cell_at e0 0; have e2 := thaw_at e0 0) | (go_at_call 36; refine (hcl _).mono ?_; rintro e W2 ⟨rfl, rfl⟩) | (go_at_call 37; refine (hfi _ hb1).mono ?_; rintro e W3 ⟨rfl, rfl⟩))
          exact ret_rosR rfl rfl rfl rfl rfl (put_at 0 _ e0) ⟨rdR_nil HE.out _, (hbw.trans (hb1.mono (by omega))).setCell (p := ⟨w.heap.size, 0, none⟩) (Nat.le_refl _) _⟩
        · have hfv : findV l (rn s pos : Int) = -1 := by rw [findV, if_neg q2]
          simp only [hfv] at hfi
          by_cases q3 : l.length < 100
          · have HR3 : Hid (rdGo (l ++ [(rn s pos : Int)]) (charsFrom s f (pos + wdt s pos)) = rdGo [] (charsOf s)) := by
              have := hgo.out
              rw [rdGo, if_pos q1, if_neg q2, if_pos q3] at this
              exact this
            have hsg2 : Hid (Signs (l ++ [(rn s pos : Int)])) := signs_snoc hsg q1 q2 q3
            clear HR2 hgo q1 q2 hfv
            generalize (rn s pos : Int) = c at *
            go_wp2_with (first | (go_at_call 35; refine hat.mono ?_; rintro e W1 ⟨rfl, hb1⟩; have hsz1 := hb1.size; have e0 := (hb1.block _ hlt).trans hres; have hrow1 := row_kept hrow (grown_below hb1) (fun k e => by cases e)) | (go_at_call 36; refine (hcl _).mono ?_; rintro e W2 ⟨rfl, rfl⟩) | (go_at_call 37; refine (hfi _ hb1).mono ?_; rintro e W3 ⟨rfl, rfl⟩) | (at_builtin; refine wpList_append_own _ rfl _ _ 58 rfl (w.heap.size + 1) 3 ic _ 1 8 Tryz.underlying58 hic hz0 hz1 hz2 rfl (by decide) _ _ _ rfl (hrow1.alloc _) ⟨W3.heap.size, 0, none⟩ 1 1 [.int .i64 c] rfl rfl (one_at _ _ _) (by simp [Value.oneCell']) (by unfold maxLen; omega) (by omega) (by simp; omega) ?_; intro v' W5 hown' hgrow _))
            go_roundw
            case rel =>
              refine ⟨pos + wdt s pos, f, l ++ [c], HR3, by omega, .inr (by simp), hsg2.out, by simp, by omega, by simpa [numsV] using hown', (hgrow.block _ (by simp; omega) (fun e => absurd (row_block hrow1 _ e.symm) (by omega))).trans (old_at e0), ?_⟩
              exact ((hbw.trans (hb1.mono (by omega))).alloc (by omega) _).grown hgrow (by simp; omega) (fun k e => by have := row_block hrow1 k e; omega)
            case measure => simp [Go.RowKit.intOf]; omega
          · have HE : Hid (readR s = ([], (l.length : Int), 2)) := by
              have := HR2.out
              rw [rdGo, if_pos q1, if_neg q2, if_neg q3] at this
              exact this
            clear HR2 hgo q1 q2 hfv
            generalize (rn s pos : Int) = c at *
            go_wp2_with (first | (go_at_call 35; refine hat.mono ?_; rintro e W1 ⟨rfl, hb1⟩; have hsz1 := hb1.size; have e0 := (hb1.block _ hlt).trans hres; have e1 := cell_at e0 0; have e2 := thaw_at e0 0) | (go_at_call 36; refine (hcl _).mono ?_; rintro e W2 ⟨rfl, rfl⟩) | (go_at_call 37; refine (hfi _ hb1).mono ?_; rintro e W3 ⟨rfl, rfl⟩))
            exact ret_rosR rfl rfl rfl rfl rfl (put_at 0 _ e0) ⟨rdR_nil HE.out _, (hbw.trans (hb1.mono (by omega))).setCell (p := ⟨w.heap.size, 0, none⟩) (Nat.le_refl _) _⟩
      · have HE : Hid (readR s = ([], (l.length : Int), 41)) := by
          have := HR2.out
          rw [rdGo, if_neg q1] at this
          exact this
        have hqc : (cls (rn s pos : Int) == 4) = false := beq_eq_false_iff_ne.2 q1
        clear HR2 hgo q1 hfi
        generalize cls (rn s pos : Int) = y at *
        generalize (rn s pos : Int) = c at *
        generalize looseB s pos = lo at *
        cases lo with
        | true =>
          go_wp2_with (go_at_call 35; refine hat.mono ?_; rintro e W1 ⟨rfl, hb1⟩; have hsz1 := hb1.size; have e0 := (hb1.block _ hlt).trans hres; have e1 := cell_at e0 0; have e2 := thaw_at e0 0)
          exact ret_rosR rfl rfl rfl rfl rfl (put_at 0 _ e0) ⟨rdR_nil HE.out _, (hbw.trans (hb1.mono (by omega))).setCell (p := ⟨w.heap.size, 0, none⟩) (Nat.le_refl _) _⟩
        | false =>
          go_wp2_with (first | (go_at_call 35; refine hat.mono ?_; rintro e W1 ⟨rfl, hb1⟩; have hsz1 := hb1.size; have e0 := (hb1.block _ hlt).trans hres; have e1 := cell_at e0 0; have e2 := thaw_at e0 0) | (go_at_call 36; refine (hcl _).mono ?_; rintro e W2 ⟨rfl, rfl⟩))
          exact ret_rosR rfl rfl rfl rfl rfl (put_at 0 _ e0) ⟨rdR_nil HE.out _, (hbw.trans (hb1.mono (by omega))).setCell (p := ⟨w.heap.size, 0, none⟩) (Nat.le_refl _) _⟩
    · have hpi : ¬ (pos : Int) < (s.size : Int) := by omega
      have hgo2 := hgo.out
      rw [charsFrom_end s fuel pos hp, rdGo] at hgo2
      by_cases hl : l = []
      · subst hl
        have hs0 : s.size = 0 := by
          rcases hne with h | h
          · omega
          · exact absurd rfl h
        have HE : Hid (readR s = ([], 0, 40)) := by show readR s = _; rw [readR, if_neg h1, if_pos hs0]
        clear hgo hgo2 hne
        go_wp2
        exact ret_rosR rfl rfl rfl rfl rfl (put_at 0 _ hres) ⟨rdR_nil HE.out _, hbw.setCell (p := ⟨w.heap.size, 0, none⟩) (Nat.le_refl _) _⟩
      · have hs0 : ¬ s.size = 0 := by
          intro e
          have : charsOf s = [] := charsFrom_end s _ 0 (by omega)
          rw [this, rdGo] at hgo2
          exact hl (congrArg Prod.fst hgo2)
        have HE : Hid (readR s = (l, 0, 0)) := by show readR s = _; rw [readR, if_neg h1, if_neg hs0]; exact hgo2.symm
        have hln : 0 < l.length := List.length_pos_iff.2 hl
        have hlz : ¬ (l.length : Int) = 0 := by omega
        have HL : Hid (l ≠ []) := hl
        clear hgo hgo2 hne hl
        go_wp2
        refine ret_rosR rfl rfl rfl rfl rfl (put_at 0 _ hres) ⟨⟨_, by rw [HE.out]; rfl, ?_⟩, hbw.setCell (p := ⟨w.heap.size, 0, none⟩) (Nat.le_refl _) _⟩
        rw [HE.out]
        obtain ⟨g, rfl, g1, g2, g3, g4⟩ := hform hln
        refine ⟨hsg, _, rfl, ⟨some ⟨g, 0, none⟩, cap, rfl, fun _ => ⟨g, rfl, by simp; exact g2, g3, fun j x hj => ?_⟩⟩⟩
        have e1 : (wr.setCell ⟨w.heap.size, 0, none⟩ (.slice (some ⟨g, 0, none⟩) l.length cap)).cell? ⟨g, j, none⟩ = wr.cell? ⟨g, j, none⟩ := World.cell?_of_block (Below.heap_setCell _ _ _ _ (by simp; omega))
        rw [e1]
        exact g4 j _ (by simp [numsV, hj])
end Go.Proofs.YtnkpohkodkjkfaaGreatDoor
