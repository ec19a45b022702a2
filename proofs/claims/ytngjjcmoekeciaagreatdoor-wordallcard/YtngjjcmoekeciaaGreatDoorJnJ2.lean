/- What the functions At and List of the document answer: at every text. -/
import Derived.Test.YtngjjcmoekeciaaGreatDoorJnJ1
import Derived.Deep.QuietTactic
import Derived.BigQuiet
namespace Go.Proofs.YtngjjcmoekeciaaGreatDoor
open Go.RowKit Go.Shelf

/-- A byte of s, as a number. -/
def by8 (s : ByteArray) (i : Nat) : Nat := (s.get! i).toNat
/-- A byte behind the first one of a sequence stands there. -/
def mB (s : ByteArray) (i : Nat) : Bool := decide (i < s.size ∧ 128 ≤ by8 s i ∧ by8 s i ≤ 191)

theorem by8_eq (s : ByteArray) (i : Nat) (h : i < s.size) : by8 s i = (s[i]'h).toNat := by
  unfold by8
  rw [get_eq s i h]
  rfl
theorem ret_boolA {a b : Bool} (h : a = b) : Ending.returned (.bool a) = .returned (.bool b) := by rw [h]

set_option maxHeartbeats 400000 in
theorem more_any (s : ByteArray) (_hs : s.size ≤ maxLen) (i : Nat) (w : World) :
    Calls Tryz.prog 116 #[.string s, .int .i64 i] w fun e w' => e = .returned (.bool (mB s i)) ∧ w' = w := by
  unfold maxLen at _hs
  by_cases h : i < s.size
  · have HB : Hid (by8 s i = (s[i]'h).toNat) := by8_eq s i h
    go_enter Tryz.func116, Tryz.ntmps116
    go_wp2
    all_goals
      go_ret
      refine ⟨ret_boolA ?_, rfl⟩
      unfold mB
      rw [HB.out]
      rw [Bool.eq_iff_iff]
      simp only [decide_eq_true_eq, Bool.false_eq_true, false_iff, h, true_and]
      omega
  · have HB : Hid (mB s i = false) := by show mB s i = false; simp [mB, h]
    go_enter Tryz.func116, Tryz.ntmps116
    go_wp2
    go_ret
    rw [HB.out]
    exact ⟨rfl, rfl⟩

/-- The same of a place that is told as an int. -/
theorem more_at (s : ByteArray) (hs : s.size ≤ maxLen) (k : Nat) (i : Int) (h : i = (k : Int)) (w : World) :
    Calls Tryz.prog 116 #[.string s, .int .i64 i] w fun e w' => e = .returned (.bool (mB s k)) ∧ w' = w := by
  subst h
  exact more_any s hs k w
theorem idx_any (s : ByteArray) (k : Nat) (i : Int) (hi : i = (k : Int)) (hk : k < s.size) (w : World) : (Instr.index 9 (.string s) (.int .i64 i)).run Tryz.prog w = .ok (.int .u8 (s[k]'hk).toNat) w := by
  subst hi
  rw [run_index_string _ _ _ _ _ Tryz.underlying9]
  simp [hk]
theorem mB_in {s : ByteArray} {k : Nat} (h : mB s k = true) : ∃ hk : k < s.size, 128 ≤ (s[k]'hk).toNat ∧ (s[k]'hk).toNat ≤ 191 := by
  unfold mB at h
  rw [decide_eq_true_eq] at h
  obtain ⟨h1, h2, h3⟩ := h
  rw [by8_eq s k h1] at h2 h3
  exact ⟨h1, h2, h3⟩

set_option maxRecDepth 100000 in
set_option maxHeartbeats 2000000 in
theorem at_one (s : ByteArray) (hs' : s.size ≤ 140737488355328) (p : Nat) (hp : p < s.size) (h0 : (s[p]'hp).toNat < 128) (w : World) :
    Calls Tryz.prog 78 #[.string s, .int .i64 p] w fun e w' => e = .returned (.tuple #[.int .i64 (s[p]'hp).toNat, .int .i64 1, .bool false]) ∧ ∃ n, w' = w.drewN n := by
  have hs : s.size ≤ maxLen := by unfold maxLen; omega
  go_enter Tryz.func78, Tryz.ntmps78
  go_wp2
  go_ret3
  exact ⟨rfl, 0, rfl⟩

set_option maxRecDepth 100000 in
set_option maxHeartbeats 2000000 in
theorem at_none (s : ByteArray) (_hs' : s.size ≤ 140737488355328) (p : Nat) (hp : p < s.size) (h0 : 128 ≤ (s[p]'hp).toNat) (h1 : (s[p]'hp).toNat < 194 ∨ 244 < (s[p]'hp).toNat) (w : World) :
    Calls Tryz.prog 78 #[.string s, .int .i64 p] w fun e w' => e = .returned (.tuple #[.int .i64 65533, .int .i64 1, .bool true]) ∧ ∃ n, w' = w.drewN n := by
  have hlt : (s[p]'hp).toNat < 256 := (s[p]'hp).toNat_lt
  rcases h1 with h1 | h1
  all_goals
    go_enter Tryz.func78, Tryz.ntmps78
    go_wp2
    go_ret3
    exact ⟨rfl, 0, rfl⟩

set_option maxRecDepth 100000 in
set_option maxHeartbeats 2000000 in
theorem at_two (s : ByteArray) (hs' : s.size ≤ 140737488355328) (p : Nat) (hp : p < s.size) (h0 : 194 ≤ (s[p]'hp).toNat) (h1 : (s[p]'hp).toNat ≤ 223) (hq : p + 1 < s.size) (k1 : 128 ≤ (s[p + 1]'hq).toNat) (k2 : (s[p + 1]'hq).toNat ≤ 191) (m1 : mB s (p + 1) = true) (w : World) :
    Calls Tryz.prog 78 #[.string s, .int .i64 p] w fun e w' => e = .returned (.tuple #[.int .i64 (((s[p]'hp).toNat - 192) * 64 + (s[p + 1]'hq).toNat - 128 : Int), .int .i64 2, .bool false]) ∧ ∃ n, w' = w.drewN n := by
  have hs : s.size ≤ maxLen := by unfold maxLen; omega
  go_enter Tryz.func78, Tryz.ntmps78
  go_wp2_with fail
  refine (more_at s hs (p + 1) _ (by omega) _).mono ?_
  rintro e w' ⟨rfl, rfl⟩
  rw [m1]
  go_wp2
  go_ret3
  exact ⟨rfl, 0, rfl⟩

set_option maxRecDepth 100000 in
set_option maxHeartbeats 2000000 in
theorem at_two_no (s : ByteArray) (hs' : s.size ≤ 140737488355328) (p : Nat) (hp : p < s.size) (h0 : 194 ≤ (s[p]'hp).toNat) (h1 : (s[p]'hp).toNat ≤ 223) (m1 : mB s (p + 1) = false) (w : World) :
    Calls Tryz.prog 78 #[.string s, .int .i64 p] w fun e w' => e = .returned (.tuple #[.int .i64 65533, .int .i64 1, .bool true]) ∧ ∃ n, w' = w.drewN n := by
  have hs : s.size ≤ maxLen := by unfold maxLen; omega
  go_enter Tryz.func78, Tryz.ntmps78
  go_wp2_with fail
  refine (more_at s hs (p + 1) _ (by omega) _).mono ?_
  rintro e w' ⟨rfl, rfl⟩
  rw [m1]
  go_wp2
  go_ret3
  exact ⟨rfl, 0, rfl⟩

set_option maxRecDepth 100000 in
set_option maxHeartbeats 2000000 in
theorem at_three_no (s : ByteArray) (hs' : s.size ≤ 140737488355328) (p : Nat) (hp : p < s.size) (h0 : 224 ≤ (s[p]'hp).toNat) (h1 : (s[p]'hp).toNat ≤ 239) (m1 : mB s (p + 1) = false) (w : World) :
    Calls Tryz.prog 78 #[.string s, .int .i64 p] w fun e w' => e = .returned (.tuple #[.int .i64 65533, .int .i64 1, .bool true]) ∧ ∃ n, w' = w.drewN n := by
  have hs : s.size ≤ maxLen := by unfold maxLen; omega
  go_enter Tryz.func78, Tryz.ntmps78
  go_wp2_with fail
  refine (more_at s hs (p + 1) _ (by omega) _).mono ?_
  rintro e w' ⟨rfl, rfl⟩
  rw [m1]
  go_wp2
  go_ret3
  exact ⟨rfl, 0, rfl⟩

set_option maxRecDepth 100000 in
set_option maxHeartbeats 2000000 in
theorem at_three_no2 (s : ByteArray) (hs' : s.size ≤ 140737488355328) (p : Nat) (hp : p < s.size) (h0 : 224 ≤ (s[p]'hp).toNat) (h1 : (s[p]'hp).toNat ≤ 239) (m1 : mB s (p + 1) = true) (m2 : mB s (p + 2) = false) (w : World) :
    Calls Tryz.prog 78 #[.string s, .int .i64 p] w fun e w' => e = .returned (.tuple #[.int .i64 65533, .int .i64 1, .bool true]) ∧ ∃ n, w' = w.drewN n := by
  have hs : s.size ≤ maxLen := by unfold maxLen; omega
  go_enter Tryz.func78, Tryz.ntmps78
  go_wp2_with fail
  refine (more_at s hs (p + 1) _ (by omega) _).mono ?_
  rintro e w' ⟨rfl, rfl⟩
  rw [m1]
  go_wp2_with fail
  refine (more_at s hs (p + 2) _ (by omega) _).mono ?_
  rintro e w' ⟨rfl, rfl⟩
  rw [m2]
  go_wp2
  go_ret3
  exact ⟨rfl, 0, rfl⟩

set_option maxRecDepth 100000 in
set_option maxHeartbeats 2000000 in
theorem at_three (s : ByteArray) (hs' : s.size ≤ 140737488355328) (p : Nat) (hp : p < s.size) (h0 : 224 ≤ (s[p]'hp).toNat) (h1 : (s[p]'hp).toNat ≤ 239) (hq : p + 1 < s.size) (k1 : 128 ≤ (s[p + 1]'hq).toNat) (k2 : (s[p + 1]'hq).toNat ≤ 191) (hr : p + 2 < s.size) (k3 : 128 ≤ (s[p + 2]'hr).toNat) (k4 : (s[p + 2]'hr).toNat ≤ 191) (m1 : mB s (p + 1) = true) (m2 : mB s (p + 2) = true) (hv : 2048 ≤ (((s[p]'hp).toNat - 224) * 4096 + ((s[p + 1]'hq).toNat - 128) * 64 + (s[p + 2]'hr).toNat - 128 : Int) ∧ ((((s[p]'hp).toNat - 224) * 4096 + ((s[p + 1]'hq).toNat - 128) * 64 + (s[p + 2]'hr).toNat - 128 : Int) < 55296 ∨ 57343 < (((s[p]'hp).toNat - 224) * 4096 + ((s[p + 1]'hq).toNat - 128) * 64 + (s[p + 2]'hr).toNat - 128 : Int))) (w : World) :
    Calls Tryz.prog 78 #[.string s, .int .i64 p] w fun e w' => e = .returned (.tuple #[.int .i64 (((s[p]'hp).toNat - 224) * 4096 + ((s[p + 1]'hq).toNat - 128) * 64 + (s[p + 2]'hr).toNat - 128 : Int), .int .i64 3, .bool false]) ∧ ∃ n, w' = w.drewN n := by
  have hs : s.size ≤ maxLen := by unfold maxLen; omega
  go_enter Tryz.func78, Tryz.ntmps78
  go_wp2_with fail
  refine (more_at s hs (p + 1) _ (by omega) _).mono ?_
  rintro e w' ⟨rfl, rfl⟩
  rw [m1]
  go_wp2_with fail
  refine (more_at s hs (p + 2) _ (by omega) _).mono ?_
  rintro e w' ⟨rfl, rfl⟩
  rw [m2]
  have i1 := idx_any s (p + 1) (p + 1) (by omega) hq
  have i2 := idx_any s (p + 2) (p + 2) (by omega) hr
  go_wp2_with fail
  go_quiet (fail)
  clear i1 i2
  generalize hrr : (((s[p]'hp).toNat - 224) * 4096 + ((s[p + 1]'hq).toNat - 128) * 64 + (s[p + 2]'hr).toNat - 128 : Int) = r at hv ⊢
  have HR : Hid ((((s[p]'hp).toNat - 224) * 4096 + ((s[p + 1]'hq).toNat - 128) * 64 + (s[p + 2]'hr).toNat - 128 : Int) = r) := hrr
  clear hrr
  rcases hv with ⟨v1, v2 | v2⟩
  all_goals
    go_wp2
    go_ret3
    exact ⟨congrArg (fun z => Ending.returned (.tuple #[.int .i64 z, .int .i64 3, .bool false])) HR.out.symm, nq, rfl⟩

set_option maxRecDepth 100000 in
set_option maxHeartbeats 2000000 in
theorem at_three_bad (s : ByteArray) (hs' : s.size ≤ 140737488355328) (p : Nat) (hp : p < s.size) (h0 : 224 ≤ (s[p]'hp).toNat) (h1 : (s[p]'hp).toNat ≤ 239) (hq : p + 1 < s.size) (k1 : 128 ≤ (s[p + 1]'hq).toNat) (k2 : (s[p + 1]'hq).toNat ≤ 191) (hr : p + 2 < s.size) (k3 : 128 ≤ (s[p + 2]'hr).toNat) (k4 : (s[p + 2]'hr).toNat ≤ 191) (m1 : mB s (p + 1) = true) (m2 : mB s (p + 2) = true) (hv : (((s[p]'hp).toNat - 224) * 4096 + ((s[p + 1]'hq).toNat - 128) * 64 + (s[p + 2]'hr).toNat - 128 : Int) < 2048 ∨ (2048 ≤ (((s[p]'hp).toNat - 224) * 4096 + ((s[p + 1]'hq).toNat - 128) * 64 + (s[p + 2]'hr).toNat - 128 : Int) ∧ 55296 ≤ (((s[p]'hp).toNat - 224) * 4096 + ((s[p + 1]'hq).toNat - 128) * 64 + (s[p + 2]'hr).toNat - 128 : Int) ∧ (((s[p]'hp).toNat - 224) * 4096 + ((s[p + 1]'hq).toNat - 128) * 64 + (s[p + 2]'hr).toNat - 128 : Int) ≤ 57343)) (w : World) :
    Calls Tryz.prog 78 #[.string s, .int .i64 p] w fun e w' => e = .returned (.tuple #[.int .i64 65533, .int .i64 1, .bool true]) ∧ ∃ n, w' = w.drewN n := by
  have hs : s.size ≤ maxLen := by unfold maxLen; omega
  go_enter Tryz.func78, Tryz.ntmps78
  go_wp2_with fail
  refine (more_at s hs (p + 1) _ (by omega) _).mono ?_
  rintro e w' ⟨rfl, rfl⟩
  rw [m1]
  go_wp2_with fail
  refine (more_at s hs (p + 2) _ (by omega) _).mono ?_
  rintro e w' ⟨rfl, rfl⟩
  rw [m2]
  have i1 := idx_any s (p + 1) (p + 1) (by omega) hq
  have i2 := idx_any s (p + 2) (p + 2) (by omega) hr
  go_wp2_with fail
  go_quiet (fail)
  clear i1 i2
  generalize (((s[p]'hp).toNat - 224) * 4096 + ((s[p + 1]'hq).toNat - 128) * 64 + (s[p + 2]'hr).toNat - 128 : Int) = r at *
  rcases hv with v1 | ⟨v1, v2, v3⟩
  all_goals
    go_wp2
    go_ret3
    exact ⟨rfl, nq, rfl⟩

set_option maxRecDepth 100000 in
set_option maxHeartbeats 2000000 in
theorem at_four_no (s : ByteArray) (hs' : s.size ≤ 140737488355328) (p : Nat) (hp : p < s.size) (h0 : 240 ≤ (s[p]'hp).toNat) (h1 : (s[p]'hp).toNat ≤ 244) (m1 : mB s (p + 1) = false) (w : World) :
    Calls Tryz.prog 78 #[.string s, .int .i64 p] w fun e w' => e = .returned (.tuple #[.int .i64 65533, .int .i64 1, .bool true]) ∧ ∃ n, w' = w.drewN n := by
  have hs : s.size ≤ maxLen := by unfold maxLen; omega
  go_enter Tryz.func78, Tryz.ntmps78
  go_wp2_with fail
  refine (more_at s hs (p + 1) _ (by omega) _).mono ?_
  rintro e w' ⟨rfl, rfl⟩
  rw [m1]
  go_wp2
  go_ret3
  exact ⟨rfl, 0, rfl⟩

set_option maxRecDepth 100000 in
set_option maxHeartbeats 2000000 in
theorem at_four_no2 (s : ByteArray) (hs' : s.size ≤ 140737488355328) (p : Nat) (hp : p < s.size) (h0 : 240 ≤ (s[p]'hp).toNat) (h1 : (s[p]'hp).toNat ≤ 244) (m1 : mB s (p + 1) = true) (m2 : mB s (p + 2) = false) (w : World) :
    Calls Tryz.prog 78 #[.string s, .int .i64 p] w fun e w' => e = .returned (.tuple #[.int .i64 65533, .int .i64 1, .bool true]) ∧ ∃ n, w' = w.drewN n := by
  have hs : s.size ≤ maxLen := by unfold maxLen; omega
  go_enter Tryz.func78, Tryz.ntmps78
  go_wp2_with fail
  refine (more_at s hs (p + 1) _ (by omega) _).mono ?_
  rintro e w' ⟨rfl, rfl⟩
  rw [m1]
  go_wp2_with fail
  refine (more_at s hs (p + 2) _ (by omega) _).mono ?_
  rintro e w' ⟨rfl, rfl⟩
  rw [m2]
  go_wp2
  go_ret3
  exact ⟨rfl, 0, rfl⟩

set_option maxRecDepth 100000 in
set_option maxHeartbeats 2000000 in
theorem at_four_no3 (s : ByteArray) (hs' : s.size ≤ 140737488355328) (p : Nat) (hp : p < s.size) (h0 : 240 ≤ (s[p]'hp).toNat) (h1 : (s[p]'hp).toNat ≤ 244) (m1 : mB s (p + 1) = true) (m2 : mB s (p + 2) = true) (m3 : mB s (p + 3) = false) (w : World) :
    Calls Tryz.prog 78 #[.string s, .int .i64 p] w fun e w' => e = .returned (.tuple #[.int .i64 65533, .int .i64 1, .bool true]) ∧ ∃ n, w' = w.drewN n := by
  have hs : s.size ≤ maxLen := by unfold maxLen; omega
  go_enter Tryz.func78, Tryz.ntmps78
  go_wp2_with fail
  refine (more_at s hs (p + 1) _ (by omega) _).mono ?_
  rintro e w' ⟨rfl, rfl⟩
  rw [m1]
  go_wp2_with fail
  refine (more_at s hs (p + 2) _ (by omega) _).mono ?_
  rintro e w' ⟨rfl, rfl⟩
  rw [m2]
  go_wp2_with fail
  refine (more_at s hs (p + 3) _ (by omega) _).mono ?_
  rintro e w' ⟨rfl, rfl⟩
  rw [m3]
  go_wp2
  go_ret3
  exact ⟨rfl, 0, rfl⟩

set_option maxRecDepth 100000 in
set_option maxHeartbeats 2000000 in
theorem at_four (s : ByteArray) (hs' : s.size ≤ 140737488355328) (p : Nat) (hp : p < s.size) (h0 : 240 ≤ (s[p]'hp).toNat) (h1 : (s[p]'hp).toNat ≤ 244) (hq : p + 1 < s.size) (k1 : 128 ≤ (s[p + 1]'hq).toNat) (k2 : (s[p + 1]'hq).toNat ≤ 191) (hr : p + 2 < s.size) (k3 : 128 ≤ (s[p + 2]'hr).toNat) (k4 : (s[p + 2]'hr).toNat ≤ 191) (ht : p + 3 < s.size) (k5 : 128 ≤ (s[p + 3]'ht).toNat) (k6 : (s[p + 3]'ht).toNat ≤ 191) (m1 : mB s (p + 1) = true) (m2 : mB s (p + 2) = true) (m3 : mB s (p + 3) = true) (hv : 65536 ≤ (((s[p]'hp).toNat - 240) * 262144 + ((s[p + 1]'hq).toNat - 128) * 4096 + ((s[p + 2]'hr).toNat - 128) * 64 + (s[p + 3]'ht).toNat - 128 : Int) ∧ (((s[p]'hp).toNat - 240) * 262144 + ((s[p + 1]'hq).toNat - 128) * 4096 + ((s[p + 2]'hr).toNat - 128) * 64 + (s[p + 3]'ht).toNat - 128 : Int) ≤ 1114111) (w : World) :
    Calls Tryz.prog 78 #[.string s, .int .i64 p] w fun e w' => e = .returned (.tuple #[.int .i64 (((s[p]'hp).toNat - 240) * 262144 + ((s[p + 1]'hq).toNat - 128) * 4096 + ((s[p + 2]'hr).toNat - 128) * 64 + (s[p + 3]'ht).toNat - 128 : Int), .int .i64 4, .bool false]) ∧ ∃ n, w' = w.drewN n := by
  have hs : s.size ≤ maxLen := by unfold maxLen; omega
  go_enter Tryz.func78, Tryz.ntmps78
  go_wp2_with fail
  refine (more_at s hs (p + 1) _ (by omega) _).mono ?_
  rintro e w' ⟨rfl, rfl⟩
  rw [m1]
  go_wp2_with fail
  refine (more_at s hs (p + 2) _ (by omega) _).mono ?_
  rintro e w' ⟨rfl, rfl⟩
  rw [m2]
  go_wp2_with fail
  refine (more_at s hs (p + 3) _ (by omega) _).mono ?_
  rintro e w' ⟨rfl, rfl⟩
  rw [m3]
  have i1 := idx_any s (p + 1) (p + 1) (by omega) hq
  have i2 := idx_any s (p + 2) (p + 2) (by omega) hr
  have i3 := idx_any s (p + 3) (p + 3) (by omega) ht
  go_wp2_with fail
  go_quiet (fail)
  clear i1 i2 i3
  generalize hrr : (((s[p]'hp).toNat - 240) * 262144 + ((s[p + 1]'hq).toNat - 128) * 4096 + ((s[p + 2]'hr).toNat - 128) * 64 + (s[p + 3]'ht).toNat - 128 : Int) = r at hv ⊢
  have HR : Hid ((((s[p]'hp).toNat - 240) * 262144 + ((s[p + 1]'hq).toNat - 128) * 4096 + ((s[p + 2]'hr).toNat - 128) * 64 + (s[p + 3]'ht).toNat - 128 : Int) = r) := hrr
  clear hrr
  obtain ⟨v1, v2⟩ := hv
  go_wp2
  go_ret3
  exact ⟨congrArg (fun z => Ending.returned (.tuple #[.int .i64 z, .int .i64 4, .bool false])) HR.out.symm, nq, rfl⟩

set_option maxRecDepth 100000 in
set_option maxHeartbeats 2000000 in
theorem at_four_bad (s : ByteArray) (hs' : s.size ≤ 140737488355328) (p : Nat) (hp : p < s.size) (h0 : 240 ≤ (s[p]'hp).toNat) (h1 : (s[p]'hp).toNat ≤ 244) (hq : p + 1 < s.size) (k1 : 128 ≤ (s[p + 1]'hq).toNat) (k2 : (s[p + 1]'hq).toNat ≤ 191) (hr : p + 2 < s.size) (k3 : 128 ≤ (s[p + 2]'hr).toNat) (k4 : (s[p + 2]'hr).toNat ≤ 191) (ht : p + 3 < s.size) (k5 : 128 ≤ (s[p + 3]'ht).toNat) (k6 : (s[p + 3]'ht).toNat ≤ 191) (m1 : mB s (p + 1) = true) (m2 : mB s (p + 2) = true) (m3 : mB s (p + 3) = true) (hv : (((s[p]'hp).toNat - 240) * 262144 + ((s[p + 1]'hq).toNat - 128) * 4096 + ((s[p + 2]'hr).toNat - 128) * 64 + (s[p + 3]'ht).toNat - 128 : Int) < 65536 ∨ (65536 ≤ (((s[p]'hp).toNat - 240) * 262144 + ((s[p + 1]'hq).toNat - 128) * 4096 + ((s[p + 2]'hr).toNat - 128) * 64 + (s[p + 3]'ht).toNat - 128 : Int) ∧ 1114111 < (((s[p]'hp).toNat - 240) * 262144 + ((s[p + 1]'hq).toNat - 128) * 4096 + ((s[p + 2]'hr).toNat - 128) * 64 + (s[p + 3]'ht).toNat - 128 : Int))) (w : World) :
    Calls Tryz.prog 78 #[.string s, .int .i64 p] w fun e w' => e = .returned (.tuple #[.int .i64 65533, .int .i64 1, .bool true]) ∧ ∃ n, w' = w.drewN n := by
  have hs : s.size ≤ maxLen := by unfold maxLen; omega
  go_enter Tryz.func78, Tryz.ntmps78
  go_wp2_with fail
  refine (more_at s hs (p + 1) _ (by omega) _).mono ?_
  rintro e w' ⟨rfl, rfl⟩
  rw [m1]
  go_wp2_with fail
  refine (more_at s hs (p + 2) _ (by omega) _).mono ?_
  rintro e w' ⟨rfl, rfl⟩
  rw [m2]
  go_wp2_with fail
  refine (more_at s hs (p + 3) _ (by omega) _).mono ?_
  rintro e w' ⟨rfl, rfl⟩
  rw [m3]
  have i1 := idx_any s (p + 1) (p + 1) (by omega) hq
  have i2 := idx_any s (p + 2) (p + 2) (by omega) hr
  have i3 := idx_any s (p + 3) (p + 3) (by omega) ht
  go_wp2_with fail
  go_quiet (fail)
  clear i1 i2 i3
  generalize (((s[p]'hp).toNat - 240) * 262144 + ((s[p + 1]'hq).toNat - 128) * 4096 + ((s[p + 2]'hr).toNat - 128) * 64 + (s[p + 3]'ht).toNat - 128 : Int) = r at *
  rcases hv with v1 | ⟨v1, v2⟩
  all_goals
    go_wp2
    go_ret3
    exact ⟨rfl, nq, rfl⟩

/-- At answers the character that begins there. -/
theorem at_any (s : ByteArray) (hs : s.size ≤ 140737488355328) (p : Nat) (hp : p < s.size) (w : World) :
    Calls Tryz.prog 78 #[.string s, .int .i64 p] w fun e w' => e = .returned (.tuple #[.int .i64 (rn s p), .int .i64 (wd s p), .bool (looseB s p)]) ∧ ∃ n, w' = w.drewN n := by
  have b0 : by8 s p = (s[p]'hp).toNat := by8_eq s p hp
  have hsh : Utf8.decode s p = Lib.decodeN (s.size - p) (by8 s p) (by8 s (p + 1)) (by8 s (p + 2)) (by8 s (p + 3)) := shape s p
  have hlt : by8 s p < 256 := (s.get! p).toNat_lt
  have loose : Utf8.decode s p = (65533, 1) → (Calls Tryz.prog 78 #[.string s, .int .i64 p] w fun e w' => e = .returned (.tuple #[.int .i64 65533, .int .i64 1, .bool true]) ∧ ∃ n, w' = w.drewN n) →
      Calls Tryz.prog 78 #[.string s, .int .i64 p] w fun e w' => e = .returned (.tuple #[.int .i64 (rn s p), .int .i64 (wd s p), .bool (looseB s p)]) ∧ ∃ n, w' = w.drewN n := by
    intro hd hc
    have e1 : rn s p = 65533 := by unfold rn; rw [hd]
    have e2 : wd s p = 1 := by unfold wd; rw [hd]
    have e3 : looseB s p = true := by unfold looseB; rw [e1, e2]; rfl
    rw [e1, e2, e3]
    exact hc
  have whole : ∀ (r k : Nat) (z : Int), Utf8.decode s p = (r, k) → z = (r : Int) → (r ≠ 65533 ∨ k ≠ 1) → (Calls Tryz.prog 78 #[.string s, .int .i64 p] w fun e w' => e = .returned (.tuple #[.int .i64 z, .int .i64 k, .bool false]) ∧ ∃ n, w' = w.drewN n) →
      Calls Tryz.prog 78 #[.string s, .int .i64 p] w fun e w' => e = .returned (.tuple #[.int .i64 (rn s p), .int .i64 (wd s p), .bool (looseB s p)]) ∧ ∃ n, w' = w.drewN n := by
    intro r k z hd hz hne hc
    have e1 : rn s p = r := by unfold rn; rw [hd]
    have e2 : wd s p = k := by unfold wd; rw [hd]
    have e3 : looseB s p = false := by unfold looseB; rw [e1, e2, decide_eq_false_iff_not]; omega
    rw [e1, e2, e3, ← hz]
    exact hc
  have mn : ∀ k, mB s (p + k) = false → p + k < s.size → by8 s (p + k) < 256 → by8 s (p + k) / 64 ≠ 2 := by
    intro k hm hk hl
    unfold mB at hm
    rw [decide_eq_false_iff_not] at hm
    omega
  have k1 : by8 s (p + 1) < 256 := (s.get! (p + 1)).toNat_lt
  have k2 : by8 s (p + 2) < 256 := (s.get! (p + 2)).toNat_lt
  have k3 : by8 s (p + 3) < 256 := (s.get! (p + 3)).toNat_lt
  by_cases c1 : by8 s p < 128
  · refine whole (by8 s p) 1 ((s[p]'hp).toNat : Int) ?_ (by omega) (by omega) (at_one s hs p hp (by omega) w)
    rw [hsh]; simp [Lib.decodeN, c1]
  by_cases c2 : by8 s p < 194 ∨ 244 < by8 s p
  · refine loose ?_ (at_none s hs p hp (by omega) (by omega) w)
    rw [hsh]
    rcases Lib.decodeN_shape (s.size - p) (by8 s p) (by8 s (p + 1)) (by8 s (p + 2)) (by8 s (p + 3)) with ⟨c, e⟩ | ⟨d1, d2, d3, dv, e⟩ | ⟨d1, d2, d3, d4, dv, ds, e⟩ | ⟨d1, d2, d3, d4, d5, dv, dw, e⟩ | e
    · omega
    · omega
    · omega
    · omega
    · exact e
  have d1 : ¬ by8 s p < 128 := c1
  by_cases c3 : by8 s p ≤ 223
  · cases m1 : mB s (p + 1) with
    | true =>
      obtain ⟨hq, g1, g2⟩ := mB_in m1
      have b1 := by8_eq s (p + 1) hq
      refine whole (by8 s p % 32 * 64 + by8 s (p + 1) % 64) 2 _ ?_ ?_ (by omega) (at_two s hs p hp (by omega) (by omega) hq g1 g2 m1 w)
      · rw [hsh]; unfold Lib.decodeN; rw [if_neg (by omega), if_pos (by omega), if_pos (by omega)]
      · omega
    | false =>
      refine loose ?_ (at_two_no s hs p hp (by omega) (by omega) m1 w)
      have := mn 1 m1
      rw [hsh]; unfold Lib.decodeN; rw [if_neg (by omega), if_neg (by omega), if_neg (by omega), if_neg (by omega)]
  by_cases c4 : by8 s p ≤ 239
  · cases m1 : mB s (p + 1) with
    | false =>
      refine loose ?_ (at_three_no s hs p hp (by omega) (by omega) m1 w)
      have := mn 1 m1
      rw [hsh]; unfold Lib.decodeN; rw [if_neg (by omega), if_neg (by omega), if_neg (by omega), if_neg (by omega)]
    | true =>
      obtain ⟨hq, g1, g2⟩ := mB_in m1
      have b1 := by8_eq s (p + 1) hq
      cases m2 : mB s (p + 2) with
      | false =>
        refine loose ?_ (at_three_no2 s hs p hp (by omega) (by omega) m1 m2 w)
        have := mn 2 m2
        rw [hsh]; unfold Lib.decodeN; rw [if_neg (by omega), if_neg (by omega), if_neg (by omega), if_neg (by omega)]
      | true =>
        obtain ⟨hr, g3, g4⟩ := mB_in m2
        have b2 := by8_eq s (p + 2) hr
        by_cases hv : 2048 ≤ by8 s p % 16 * 4096 + by8 s (p + 1) % 64 * 64 + by8 s (p + 2) % 64 ∧ (by8 s p % 16 * 4096 + by8 s (p + 1) % 64 * 64 + by8 s (p + 2) % 64 < 55296 ∨ 57343 < by8 s p % 16 * 4096 + by8 s (p + 1) % 64 * 64 + by8 s (p + 2) % 64)
        · refine whole (by8 s p % 16 * 4096 + by8 s (p + 1) % 64 * 64 + by8 s (p + 2) % 64) 3 _ ?_ ?_ (by omega) (at_three s hs p hp (by omega) (by omega) hq g1 g2 hr g3 g4 m1 m2 (by omega) w)
          · rw [hsh]; unfold Lib.decodeN; rw [if_neg (by omega), if_neg (by omega), if_pos (by omega), if_pos (by omega)]
          · omega
        · refine loose ?_ (at_three_bad s hs p hp (by omega) (by omega) hq g1 g2 hr g3 g4 m1 m2 (by omega) w)
          rw [hsh]; unfold Lib.decodeN; rw [if_neg (by omega), if_neg (by omega), if_pos (by omega), if_neg (by omega)]
  · cases m1 : mB s (p + 1) with
    | false =>
      refine loose ?_ (at_four_no s hs p hp (by omega) (by omega) m1 w)
      have := mn 1 m1
      rw [hsh]; unfold Lib.decodeN; rw [if_neg (by omega), if_neg (by omega), if_neg (by omega), if_neg (by omega)]
    | true =>
      obtain ⟨hq, g1, g2⟩ := mB_in m1
      have b1 := by8_eq s (p + 1) hq
      cases m2 : mB s (p + 2) with
      | false =>
        refine loose ?_ (at_four_no2 s hs p hp (by omega) (by omega) m1 m2 w)
        have := mn 2 m2
        rw [hsh]; unfold Lib.decodeN; rw [if_neg (by omega), if_neg (by omega), if_neg (by omega), if_neg (by omega)]
      | true =>
        obtain ⟨hr, g3, g4⟩ := mB_in m2
        have b2 := by8_eq s (p + 2) hr
        cases m3 : mB s (p + 3) with
        | false =>
          refine loose ?_ (at_four_no3 s hs p hp (by omega) (by omega) m1 m2 m3 w)
          have := mn 3 m3
          rw [hsh]; unfold Lib.decodeN; rw [if_neg (by omega), if_neg (by omega), if_neg (by omega), if_neg (by omega)]
        | true =>
          obtain ⟨ht, g5, g6⟩ := mB_in m3
          have b3 := by8_eq s (p + 3) ht
          by_cases hv : 65536 ≤ by8 s p % 8 * 262144 + by8 s (p + 1) % 64 * 4096 + by8 s (p + 2) % 64 * 64 + by8 s (p + 3) % 64 ∧ by8 s p % 8 * 262144 + by8 s (p + 1) % 64 * 4096 + by8 s (p + 2) % 64 * 64 + by8 s (p + 3) % 64 ≤ 1114111
          · refine whole (by8 s p % 8 * 262144 + by8 s (p + 1) % 64 * 4096 + by8 s (p + 2) % 64 * 64 + by8 s (p + 3) % 64) 4 _ ?_ ?_ (by omega) (at_four s hs p hp (by omega) (by omega) hq g1 g2 hr g3 g4 ht g5 g6 m1 m2 m3 (by omega) w)
            · rw [hsh]; unfold Lib.decodeN; rw [if_neg (by omega), if_neg (by omega), if_neg (by omega), if_pos (by omega), if_pos (by omega)]
            · omega
          · refine loose ?_ (at_four_bad s hs p hp (by omega) (by omega) hq g1 g2 hr g3 g4 ht g5 g6 m1 m2 m3 (by omega) w)
            rw [hsh]; unfold Lib.decodeN; rw [if_neg (by omega), if_neg (by omega), if_neg (by omega), if_pos (by omega), if_neg (by omega)]
end Go.Proofs.YtngjjcmoekeciaaGreatDoor
namespace Go.Proofs.YtngjjcmoekeciaaGreatDoor
open Go.RowKit Go.Shelf

theorem cls_range (r : Int) : cls r = 1 ∨ cls r = 2 ∨ cls r = 3 ∨ cls r = 4 ∨ cls r = 5 ∨ cls r = 6 := by
  unfold cls
  repeat' split
  all_goals simp
/-- What begins at a character. -/
def kindR (r : Int) : Int := if r = 34 then 4 else if r = 35 then -2 else if cls r = 1 then -1 else if cls r = 3 then 3 else if cls r = 4 then 2 else if cls r = 5 then 5 else 0

set_option maxHeartbeats 2000000 in
theorem kindAt_any (r : Int) (w : World) : Calls Tryz.prog 73 #[.int .i32 r] w fun e w' => e = .returned (.int .i64 (kindR r)) ∧ Below w.heap.size w w' := by
  by_cases c1 : r = 34
  · subst c1
    go_enter Tryz.func73, Tryz.ntmps73
    go_wp2
    go_ret
    exact ⟨rfl, (Below.refl _ _).alloc (Nat.le_refl _) _⟩
  by_cases c2 : r = 35
  · subst c2
    go_enter Tryz.func73, Tryz.ntmps73
    go_wp2
    go_ret
    exact ⟨rfl, (Below.refl _ _).alloc (Nat.le_refl _) _⟩
  have g1 : (r == 34) = false := beq_eq_false_iff_ne.2 c1
  have g2 : (r == 35) = false := beq_eq_false_iff_ne.2 c2
  have hc := class_any r
  have HK : Hid (kindR r = if cls r = 1 then -1 else if cls r = 3 then 3 else if cls r = 4 then 2 else if cls r = 5 then 5 else 0) := by show kindR r = _; unfold kindR; rw [if_neg c1, if_neg c2]
  clear c1 c2
  rcases cls_range r with h | h | h | h | h | h
  all_goals
    rw [h] at hc HK
    have HV : Hid (kindR r = _) := HK
    clear HK h
    go_enter Tryz.func73, Tryz.ntmps73
    go_wp2_with (go_at_call 108; refine (hc _).mono ?_; rintro e w9 ⟨rfl, rfl⟩)
    go_ret
    rw [HV.out]
    exact ⟨rfl, (Below.refl _ _).alloc (Nat.le_refl _) _⟩

/-- The letters and digits from the place p on: where they end, how many there are. -/
def runAt (s : ByteArray) : Nat → Nat → Nat → Nat × Nat
  | 0, p, n => (p, n)
  | f + 1, p, n => if ¬ p < s.size then (s.size, n) else if cls (rn s p : Int) = 4 ∨ cls (rn s p : Int) = 3 then runAt s f (p + wd s p) (n + 1) else (p, n)
def runR (s : ByteArray) : Nat × Nat := runAt s (s.size + 1) 0 0

set_option maxHeartbeats 2000000 in
theorem run_any (s : ByteArray) (hs : s.size ≤ maxLen) (w : World) :
    Calls Tryz.prog 74 #[.string s] w fun e w' => e = .returned (.tuple #[.int .i64 (runR s).1, .int .i64 (runR s).2]) ∧ Below w.heap.size w w' := by
  unfold maxLen at hs
  go_enter Tryz.func74, Tryz.ntmps74
  go_wp2
  go_loopw [3] (fun c wz => ∃ (pos n f : Nat), c = .int .i64 n ∧ s.size < pos + f ∧ n ≤ pos ∧ pos ≤ s.size ∧ Hid (runAt s f pos n = runR s) ∧ wz.heap[w.heap.size]? = some (.stringIter s pos) ∧ Below w.heap.size w wz) (fun _ wz => s.size - wz.iterPos w.heap.size)
  case atStart =>
    refine ⟨0, 0, s.size + 1, rfl, by omega, by omega, by omega, rfl, ?_, (Below.refl _ w).alloc (Nat.le_refl _) _⟩
    exact World.iter_heap w s 0
  case round =>
    obtain ⟨pos, n, f, rfl, hfu, hnp, hps, HR, hit, hbw⟩ := hrel
    have hsz : w.heap.size < wr.heap.size := (Array.getElem?_eq_some_iff.1 hit).1
    obtain ⟨g, rfl⟩ : ∃ g, f = g + 1 := ⟨f - 1, by omega⟩
    by_cases hp : pos < s.size
    · have hnx : ∀ ty, (Instr.next (.pointer (some ⟨w.heap.size, 0, none⟩)) true ty).run Tryz.prog wr = _ := fun ty => Lib.run_next_any_at wr w.heap.size s pos ty hit hp
      have hwd := wd_pos s pos
      have hwl := wd_le s pos hp
      have hit2 := Lib.iterAt_heap wr w.heap.size s pos (pos + wd s pos) hit
      have hbw2 := Lib.below_iterAt hbw (k := w.heap.size) (Nat.le_refl _) s (pos + wd s pos)
      have hsz3 : wr.iterPos w.heap.size = pos := by simp only [World.iterPos, hit]
      have erw : (Utf8.decode s pos).1 = rn s pos := rfl
      have eww : (Utf8.decode s pos).2 = wd s pos := rfl
      rw [erw, eww] at hnx
      clear erw eww
      have hc := class_any (rn s pos : Int)
      by_cases hk : cls (rn s pos : Int) = 4 ∨ cls (rn s pos : Int) = 3
      · have HR2 : Hid (runAt s g (pos + wd s pos) (n + 1) = runR s) := by
          have h := HR.out
          rw [runAt, if_neg (by omega), if_pos hk] at h
          exact h
        clear HR hbw
        rcases hk with hk | hk
        all_goals
          rw [hk] at hc
          clear hk
          go_wp2_with (go_at_call 108; refine (hc _).mono ?_; rintro e w9 ⟨rfl, rfl⟩)
          go_roundw
          case rel => exact ⟨pos + wd s pos, n + 1, g, by go_num, by omega, by omega, hwl, HR2, hit2, hbw2⟩
          case measure =>
            rw [hsz3]
            simp only [World.iterPos, hit2]
            omega
      · have HV : Hid (runR s = (pos, n)) := by
          have h := HR.out
          rw [runAt, if_neg (by omega), if_neg hk] at h
          exact h.symm
        have q1 : (cls (rn s pos : Int) == 4) = false := beq_eq_false_iff_ne.2 (fun h => hk (Or.inl h))
        have q2 : (cls (rn s pos : Int) == 3) = false := beq_eq_false_iff_ne.2 (fun h => hk (Or.inr h))
        clear HR hbw hk
        go_wp2_with (go_at_call 108; refine (hc _).mono ?_; rintro e w9 ⟨rfl, rfl⟩)
        go_ret2
        rw [HV.out]
        exact ⟨rfl, hbw2⟩
    · have hnx : ∀ ty, (Instr.next (.pointer (some ⟨w.heap.size, 0, none⟩)) true ty).run Tryz.prog wr = _ := fun ty => Lib.run_next_end_at wr w.heap.size s pos ty hit hp
      have HV : Hid (runR s = (s.size, n)) := by
        have h := HR.out
        rw [runAt, if_pos hp] at h
        exact h.symm
      clear HR
      go_wp2
      go_ret2
      rw [HV.out]
      exact ⟨rfl, hbw⟩
end Go.Proofs.YtngjjcmoekeciaaGreatDoor
namespace Go.Proofs.YtngjjcmoekeciaaGreatDoor
open Go.RowKit Go.Shelf

/-- Where the letters and digits from the place p on end. -/
def runD (s : ByteArray) : Nat → Nat → Nat
  | 0, p => p
  | f + 1, p => if p < s.size ∧ looseB s p = false ∧ (cls (rn s p : Int) = 3 ∨ cls (rn s p : Int) = 4) then runD s f (p + wd s p) else p
theorem runD_on (s : ByteArray) (f p : Nat) (h : p < s.size) (hl : looseB s p = false) (hc : cls (rn s p : Int) = 3 ∨ cls (rn s p : Int) = 4) : runD s (f + 1) p = runD s f (p + wd s p) := by rw [runD, if_pos ⟨h, hl, hc⟩]
theorem runD_end (s : ByteArray) (f p : Nat) (h : ¬ (p < s.size ∧ looseB s p = false ∧ (cls (rn s p : Int) = 3 ∨ cls (rn s p : Int) = 4))) : runD s f p = p := by
  cases f with
  | zero => rfl
  | succ f => rw [runD, if_neg h]
def vnatD (v : Value) : Nat := match v with | .int _ n => n.toNat | _ => 0
theorem at_w (s : ByteArray) (hs : s.size ≤ 65536) (p : Nat) (hp : p < s.size) (w : World) : Calls Tryz.prog 78 #[.string s, .int .i64 (p : Int)] w fun e w' => e = .returned (.tuple #[.int .i64 (rn s p), .int .i64 (wd s p), .bool (looseB s p)]) ∧ Below w.heap.size w w' := by
  refine (at_any s (by omega) p hp w).mono ?_
  rintro e w' ⟨he, n, rfl⟩
  exact ⟨he, ⟨rfl, rfl, rfl, Nat.le_refl _, fun _ _ => rfl⟩⟩
set_option maxHeartbeats 4000000 in
set_option maxRecDepth 100000 in
theorem rRun_any (s : ByteArray) (hs : s.size ≤ 65536) (p : Nat) (hp : p ≤ s.size) (w : World) : Calls Tryz.prog 80 #[.string s, .int .i64 (p : Int)] w fun e w' => e = .returned (.int .i64 (runD s s.size p)) ∧ Below w.heap.size w w' := by
  obtain ⟨R, hR⟩ : ∃ R, runD s s.size p = R := ⟨_, rfl⟩
  rw [hR]
  have HR : Hid (runD s s.size p = R) := hR
  clear hR
  go_enter Tryz.func80, Tryz.ntmps80
  go_wp2
  go_loopw [1] (fun i wz => ∃ (k f : Nat), i = .int .i64 (k : Int) ∧ k ≤ s.size ∧ s.size ≤ k + f ∧ Hid (runD s f k = R) ∧ Below w.heap.size w wz) (fun i _ => s.size - vnatD i)
  case atStart => exact ⟨p, s.size, rfl, hp, by omega, HR, Below.refl _ _⟩
  case round =>
    obtain ⟨k, f, rfl, hk, hf, HK, hbw⟩ := hrel
    by_cases hkl : k < s.size
    · obtain ⟨g, rfl⟩ : ∃ g, f = g + 1 := ⟨f - 1, by omega⟩
      have hat := at_w s hs k hkl
      have hwp := wd_pos s k
      have hwl := wd_le s k hkl
      have hcl := refClass_any (rn s k : Int)
      have hki : (k : Int) < (s.size : Int) := by omega
      by_cases hc : looseB s k = false ∧ (cls (rn s k : Int) = 3 ∨ cls (rn s k : Int) = 4)
      · have HN : Hid (runD s g (k + wd s k) = R) := by show runD s g (k + wd s k) = R; rw [← HK.out, runD_on s g k hkl hc.1 hc.2]
        rw [hc.1] at hat
        obtain ⟨_, hc⟩ := hc
        generalize cls (rn s k : Int) = C at *
        generalize rn s k = r at *
        clear HK HR
        rcases hc with rfl | rfl
        all_goals
          go_wp2_with (first | (go_at_call 78; (with_reducible refine (hat _).mono ?_); rintro e u1 ⟨rfl, hb1⟩) | (go_at_call 79; (with_reducible refine (hcl _).mono ?_); rintro e u2 ⟨rfl, rfl⟩))
          go_roundw
          case rel => exact ⟨k + wd s k, g, by push_cast; rfl, hwl, by omega, HN, hbw.trans (hb1.mono hbw.size)⟩
          case measure => simp [vnatD]; omega
      · have HE : Hid (R = k) := by
          show R = k
          rw [← HK.out]
          exact runD_end s _ k (fun h => hc h.2)
        clear HK HR
        cases hlo : looseB s k with
        | true =>
          rw [hlo] at hat
          generalize cls (rn s k : Int) = C at *
          generalize rn s k = r at *
          clear hc hlo
          go_wp2_with (first | (go_at_call 78; (with_reducible refine (hat _).mono ?_); rintro e u1 ⟨rfl, hb1⟩) | (go_at_call 79; (with_reducible refine (hcl _).mono ?_); rintro e u2 ⟨rfl, rfl⟩))
          go_ret
          rw [HE.out]
          exact ⟨rfl, hbw.trans (hb1.mono hbw.size)⟩
        | false =>
          rw [hlo] at hat
          have h3 : ¬ cls (rn s k : Int) = 3 := fun e => hc ⟨hlo, .inl e⟩
          have h4 : ¬ cls (rn s k : Int) = 4 := fun e => hc ⟨hlo, .inr e⟩
          generalize cls (rn s k : Int) = C at *
          generalize rn s k = r at *
          have h34 : (C != 3 && C != 4) = true := by simp [h3, h4]
          clear hc hlo
          go_wp2_with (first | (go_at_call 78; (with_reducible refine (hat _).mono ?_); rintro e u1 ⟨rfl, hb1⟩) | (go_at_call 79; (with_reducible refine (hcl _).mono ?_); rintro e u2 ⟨rfl, rfl⟩))
          go_ret
          rw [HE.out]
          exact ⟨rfl, hbw.trans (hb1.mono hbw.size)⟩
    · have HE : Hid (R = k) := by
        show R = k
        rw [← HK.out]
        exact runD_end s _ k (fun h => hkl h.1)
      clear HK HR
      go_wp2
      go_ret
      rw [HE.out]
      exact ⟨rfl, hbw⟩
end Go.Proofs.YtngjjcmoekeciaaGreatDoor
