/- What the functions At and List of the document answer: at every text. -/
import Derived.Test.YtibhljdiofglfaaDoorCls
import Derived.Deep.QuietTactic
import Derived.BigQuiet
namespace Go.Proofs.YtibhljdiofglfaaDoor
open Go.RowKit Go.Shelf

/-- A byte of s, as a number. -/
def by8 (s : ByteArray) (i : Nat) : Nat := (s.get! i).toNat
/-- A byte behind the first one of a sequence stands there. -/
def mB (s : ByteArray) (i : Nat) : Bool := decide (i < s.size ∧ 128 ≤ by8 s i ∧ by8 s i ≤ 191)

theorem by8_eq (s : ByteArray) (i : Nat) (h : i < s.size) : by8 s i = (s[i]'h).toNat := by
  unfold by8
  rw [get_eq s i h]
  rfl
theorem ret_boolA {a b : Bool} (h : a = b) : Ending.returned (.bool a) = .returned (.bool b) := by rw [h]

set_option maxHeartbeats 400000 in
theorem more_any (s : ByteArray) (_hs : s.size ≤ maxLen) (i : Nat) (w : World) :
    Calls Tryd.prog 53 #[.string s, .int .i64 i] w fun e w' => e = .returned (.bool (mB s i)) ∧ w' = w := by
  unfold maxLen at _hs
  by_cases h : i < s.size
  · have HB : Hid (by8 s i = (s[i]'h).toNat) := by8_eq s i h
    go_enter Tryd.func53, Tryd.ntmps53
    go_wp2
    all_goals
      go_ret
      refine ⟨ret_boolA ?_, rfl⟩
      unfold mB
      rw [HB.out]
      rw [Bool.eq_iff_iff]
      simp only [decide_eq_true_eq, Bool.false_eq_true, false_iff, h, true_and]
      omega
  · have HB : Hid (mB s i = false) := by show mB s i = false; simp [mB, h]
    go_enter Tryd.func53, Tryd.ntmps53
    go_wp2
    go_ret
    rw [HB.out]
    exact ⟨rfl, rfl⟩

/-- The same of a place that is told as an int. -/
theorem more_at (s : ByteArray) (hs : s.size ≤ maxLen) (k : Nat) (i : Int) (h : i = (k : Int)) (w : World) :
    Calls Tryd.prog 53 #[.string s, .int .i64 i] w fun e w' => e = .returned (.bool (mB s k)) ∧ w' = w := by
  subst h
  exact more_any s hs k w
theorem idx_any (s : ByteArray) (k : Nat) (i : Int) (hi : i = (k : Int)) (hk : k < s.size) (w : World) : (Instr.index 9 (.string s) (.int .i64 i)).run Tryd.prog w = .ok (.int .u8 (s[k]'hk).toNat) w := by
  subst hi
  rw [run_index_string _ _ _ _ _ Tryd.underlying9]
  simp [hk]
theorem mB_in {s : ByteArray} {k : Nat} (h : mB s k = true) : ∃ hk : k < s.size, 128 ≤ (s[k]'hk).toNat ∧ (s[k]'hk).toNat ≤ 191 := by
  unfold mB at h
  rw [decide_eq_true_eq] at h
  obtain ⟨h1, h2, h3⟩ := h
  rw [by8_eq s k h1] at h2 h3
  exact ⟨h1, h2, h3⟩

set_option maxRecDepth 100000 in
set_option maxHeartbeats 2000000 in
theorem at_one (s : ByteArray) (hs' : s.size ≤ 140737488355328) (p : Nat) (hp : p < s.size) (h0 : (s[p]'hp).toNat < 128) (w : World) :
    Calls Tryd.prog 38 #[.string s, .int .i64 p] w fun e w' => e = .returned (.tuple #[.int .i64 (s[p]'hp).toNat, .int .i64 1, .bool false]) ∧ ∃ n, w' = w.drewN n := by
  have hs : s.size ≤ maxLen := by unfold maxLen; omega
  go_enter Tryd.func38, Tryd.ntmps38
  go_wp2
  go_ret3
  exact ⟨rfl, 0, rfl⟩

set_option maxRecDepth 100000 in
set_option maxHeartbeats 2000000 in
theorem at_none (s : ByteArray) (_hs' : s.size ≤ 140737488355328) (p : Nat) (hp : p < s.size) (h0 : 128 ≤ (s[p]'hp).toNat) (h1 : (s[p]'hp).toNat < 194 ∨ 244 < (s[p]'hp).toNat) (w : World) :
    Calls Tryd.prog 38 #[.string s, .int .i64 p] w fun e w' => e = .returned (.tuple #[.int .i64 65533, .int .i64 1, .bool true]) ∧ ∃ n, w' = w.drewN n := by
  have hlt : (s[p]'hp).toNat < 256 := (s[p]'hp).toNat_lt
  rcases h1 with h1 | h1
  all_goals
    go_enter Tryd.func38, Tryd.ntmps38
    go_wp2
    go_ret3
    exact ⟨rfl, 0, rfl⟩

set_option maxRecDepth 100000 in
set_option maxHeartbeats 2000000 in
theorem at_two (s : ByteArray) (hs' : s.size ≤ 140737488355328) (p : Nat) (hp : p < s.size) (h0 : 194 ≤ (s[p]'hp).toNat) (h1 : (s[p]'hp).toNat ≤ 223) (hq : p + 1 < s.size) (k1 : 128 ≤ (s[p + 1]'hq).toNat) (k2 : (s[p + 1]'hq).toNat ≤ 191) (m1 : mB s (p + 1) = true) (w : World) :
    Calls Tryd.prog 38 #[.string s, .int .i64 p] w fun e w' => e = .returned (.tuple #[.int .i64 (((s[p]'hp).toNat - 192) * 64 + (s[p + 1]'hq).toNat - 128 : Int), .int .i64 2, .bool false]) ∧ ∃ n, w' = w.drewN n := by
  have hs : s.size ≤ maxLen := by unfold maxLen; omega
  go_enter Tryd.func38, Tryd.ntmps38
  go_wp2_with fail
  refine (more_at s hs (p + 1) _ (by omega) _).mono ?_
  rintro e w' ⟨rfl, rfl⟩
  rw [m1]
  go_wp2
  go_ret3
  exact ⟨rfl, 0, rfl⟩

set_option maxRecDepth 100000 in
set_option maxHeartbeats 2000000 in
theorem at_two_no (s : ByteArray) (hs' : s.size ≤ 140737488355328) (p : Nat) (hp : p < s.size) (h0 : 194 ≤ (s[p]'hp).toNat) (h1 : (s[p]'hp).toNat ≤ 223) (m1 : mB s (p + 1) = false) (w : World) :
    Calls Tryd.prog 38 #[.string s, .int .i64 p] w fun e w' => e = .returned (.tuple #[.int .i64 65533, .int .i64 1, .bool true]) ∧ ∃ n, w' = w.drewN n := by
  have hs : s.size ≤ maxLen := by unfold maxLen; omega
  go_enter Tryd.func38, Tryd.ntmps38
  go_wp2_with fail
  refine (more_at s hs (p + 1) _ (by omega) _).mono ?_
  rintro e w' ⟨rfl, rfl⟩
  rw [m1]
  go_wp2
  go_ret3
  exact ⟨rfl, 0, rfl⟩

set_option maxRecDepth 100000 in
set_option maxHeartbeats 2000000 in
theorem at_three_no (s : ByteArray) (hs' : s.size ≤ 140737488355328) (p : Nat) (hp : p < s.size) (h0 : 224 ≤ (s[p]'hp).toNat) (h1 : (s[p]'hp).toNat ≤ 239) (m1 : mB s (p + 1) = false) (w : World) :
    Calls Tryd.prog 38 #[.string s, .int .i64 p] w fun e w' => e = .returned (.tuple #[.int .i64 65533, .int .i64 1, .bool true]) ∧ ∃ n, w' = w.drewN n := by
  have hs : s.size ≤ maxLen := by unfold maxLen; omega
  go_enter Tryd.func38, Tryd.ntmps38
  go_wp2_with fail
  refine (more_at s hs (p + 1) _ (by omega) _).mono ?_
  rintro e w' ⟨rfl, rfl⟩
  rw [m1]
  go_wp2
  go_ret3
  exact ⟨rfl, 0, rfl⟩

set_option maxRecDepth 100000 in
set_option maxHeartbeats 2000000 in
theorem at_three_no2 (s : ByteArray) (hs' : s.size ≤ 140737488355328) (p : Nat) (hp : p < s.size) (h0 : 224 ≤ (s[p]'hp).toNat) (h1 : (s[p]'hp).toNat ≤ 239) (m1 : mB s (p + 1) = true) (m2 : mB s (p + 2) = false) (w : World) :
    Calls Tryd.prog 38 #[.string s, .int .i64 p] w fun e w' => e = .returned (.tuple #[.int .i64 65533, .int .i64 1, .bool true]) ∧ ∃ n, w' = w.drewN n := by
  have hs : s.size ≤ maxLen := by unfold maxLen; omega
  go_enter Tryd.func38, Tryd.ntmps38
  go_wp2_with fail
  refine (more_at s hs (p + 1) _ (by omega) _).mono ?_
  rintro e w' ⟨rfl, rfl⟩
  rw [m1]
  go_wp2_with fail
  refine (more_at s hs (p + 2) _ (by omega) _).mono ?_
  rintro e w' ⟨rfl, rfl⟩
  rw [m2]
  go_wp2
  go_ret3
  exact ⟨rfl, 0, rfl⟩

set_option maxRecDepth 100000 in
set_option maxHeartbeats 2000000 in
theorem at_three (s : ByteArray) (hs' : s.size ≤ 140737488355328) (p : Nat) (hp : p < s.size) (h0 : 224 ≤ (s[p]'hp).toNat) (h1 : (s[p]'hp).toNat ≤ 239) (hq : p + 1 < s.size) (k1 : 128 ≤ (s[p + 1]'hq).toNat) (k2 : (s[p + 1]'hq).toNat ≤ 191) (hr : p + 2 < s.size) (k3 : 128 ≤ (s[p + 2]'hr).toNat) (k4 : (s[p + 2]'hr).toNat ≤ 191) (m1 : mB s (p + 1) = true) (m2 : mB s (p + 2) = true) (hv : 2048 ≤ (((s[p]'hp).toNat - 224) * 4096 + ((s[p + 1]'hq).toNat - 128) * 64 + (s[p + 2]'hr).toNat - 128 : Int) ∧ ((((s[p]'hp).toNat - 224) * 4096 + ((s[p + 1]'hq).toNat - 128) * 64 + (s[p + 2]'hr).toNat - 128 : Int) < 55296 ∨ 57343 < (((s[p]'hp).toNat - 224) * 4096 + ((s[p + 1]'hq).toNat - 128) * 64 + (s[p + 2]'hr).toNat - 128 : Int))) (w : World) :
    Calls Tryd.prog 38 #[.string s, .int .i64 p] w fun e w' => e = .returned (.tuple #[.int .i64 (((s[p]'hp).toNat - 224) * 4096 + ((s[p + 1]'hq).toNat - 128) * 64 + (s[p + 2]'hr).toNat - 128 : Int), .int .i64 3, .bool false]) ∧ ∃ n, w' = w.drewN n := by
  have hs : s.size ≤ maxLen := by unfold maxLen; omega
  go_enter Tryd.func38, Tryd.ntmps38
  go_wp2_with fail
  refine (more_at s hs (p + 1) _ (by omega) _).mono ?_
  rintro e w' ⟨rfl, rfl⟩
  rw [m1]
  go_wp2_with fail
  refine (more_at s hs (p + 2) _ (by omega) _).mono ?_
  rintro e w' ⟨rfl, rfl⟩
  rw [m2]
  have i1 := idx_any s (p + 1) (p + 1) (by omega) hq
  have i2 := idx_any s (p + 2) (p + 2) (by omega) hr
  go_wp2_with fail
  go_quiet (fail)
  clear i1 i2
  generalize hrr : (((s[p]'hp).toNat - 224) * 4096 + ((s[p + 1]'hq).toNat - 128) * 64 + (s[p + 2]'hr).toNat - 128 : Int) = r at hv ⊢
  have HR : Hid ((((s[p]'hp).toNat - 224) * 4096 + ((s[p + 1]'hq).toNat - 128) * 64 + (s[p + 2]'hr).toNat - 128 : Int) = r) := hrr
  clear hrr
  rcases hv with ⟨v1, v2 | v2⟩
  all_goals
    go_wp2
    go_ret3
    exact ⟨congrArg (fun z => Ending.returned (.tuple #[.int .i64 z, .int .i64 3, .bool false])) HR.out.symm, nq, rfl⟩

set_option maxRecDepth 100000 in
set_option maxHeartbeats 2000000 in
theorem at_three_bad (s : ByteArray) (hs' : s.size ≤ 140737488355328) (p : Nat) (hp : p < s.size) (h0 : 224 ≤ (s[p]'hp).toNat) (h1 : (s[p]'hp).toNat ≤ 239) (hq : p + 1 < s.size) (k1 : 128 ≤ (s[p + 1]'hq).toNat) (k2 : (s[p + 1]'hq).toNat ≤ 191) (hr : p + 2 < s.size) (k3 : 128 ≤ (s[p + 2]'hr).toNat) (k4 : (s[p + 2]'hr).toNat ≤ 191) (m1 : mB s (p + 1) = true) (m2 : mB s (p + 2) = true) (hv : (((s[p]'hp).toNat - 224) * 4096 + ((s[p + 1]'hq).toNat - 128) * 64 + (s[p + 2]'hr).toNat - 128 : Int) < 2048 ∨ (2048 ≤ (((s[p]'hp).toNat - 224) * 4096 + ((s[p + 1]'hq).toNat - 128) * 64 + (s[p + 2]'hr).toNat - 128 : Int) ∧ 55296 ≤ (((s[p]'hp).toNat - 224) * 4096 + ((s[p + 1]'hq).toNat - 128) * 64 + (s[p + 2]'hr).toNat - 128 : Int) ∧ (((s[p]'hp).toNat - 224) * 4096 + ((s[p + 1]'hq).toNat - 128) * 64 + (s[p + 2]'hr).toNat - 128 : Int) ≤ 57343)) (w : World) :
    Calls Tryd.prog 38 #[.string s, .int .i64 p] w fun e w' => e = .returned (.tuple #[.int .i64 65533, .int .i64 1, .bool true]) ∧ ∃ n, w' = w.drewN n := by
  have hs : s.size ≤ maxLen := by unfold maxLen; omega
  go_enter Tryd.func38, Tryd.ntmps38
  go_wp2_with fail
  refine (more_at s hs (p + 1) _ (by omega) _).mono ?_
  rintro e w' ⟨rfl, rfl⟩
  rw [m1]
  go_wp2_with fail
  refine (more_at s hs (p + 2) _ (by omega) _).mono ?_
  rintro e w' ⟨rfl, rfl⟩
  rw [m2]
  have i1 := idx_any s (p + 1) (p + 1) (by omega) hq
  have i2 := idx_any s (p + 2) (p + 2) (by omega) hr
  go_wp2_with fail
  go_quiet (fail)
  clear i1 i2
  generalize (((s[p]'hp).toNat - 224) * 4096 + ((s[p + 1]'hq).toNat - 128) * 64 + (s[p + 2]'hr).toNat - 128 : Int) = r at *
  rcases hv with v1 | ⟨v1, v2, v3⟩
  all_goals
    go_wp2
    go_ret3
    exact ⟨rfl, nq, rfl⟩

set_option maxRecDepth 100000 in
set_option maxHeartbeats 2000000 in
theorem at_four_no (s : ByteArray) (hs' : s.size ≤ 140737488355328) (p : Nat) (hp : p < s.size) (h0 : 240 ≤ (s[p]'hp).toNat) (h1 : (s[p]'hp).toNat ≤ 244) (m1 : mB s (p + 1) = false) (w : World) :
    Calls Tryd.prog 38 #[.string s, .int .i64 p] w fun e w' => e = .returned (.tuple #[.int .i64 65533, .int .i64 1, .bool true]) ∧ ∃ n, w' = w.drewN n := by
  have hs : s.size ≤ maxLen := by unfold maxLen; omega
  go_enter Tryd.func38, Tryd.ntmps38
  go_wp2_with fail
  refine (more_at s hs (p + 1) _ (by omega) _).mono ?_
  rintro e w' ⟨rfl, rfl⟩
  rw [m1]
  go_wp2
  go_ret3
  exact ⟨rfl, 0, rfl⟩

set_option maxRecDepth 100000 in
set_option maxHeartbeats 2000000 in
theorem at_four_no2 (s : ByteArray) (hs' : s.size ≤ 140737488355328) (p : Nat) (hp : p < s.size) (h0 : 240 ≤ (s[p]'hp).toNat) (h1 : (s[p]'hp).toNat ≤ 244) (m1 : mB s (p + 1) = true) (m2 : mB s (p + 2) = false) (w : World) :
    Calls Tryd.prog 38 #[.string s, .int .i64 p] w fun e w' => e = .returned (.tuple #[.int .i64 65533, .int .i64 1, .bool true]) ∧ ∃ n, w' = w.drewN n := by
  have hs : s.size ≤ maxLen := by unfold maxLen; omega
  go_enter Tryd.func38, Tryd.ntmps38
  go_wp2_with fail
  refine (more_at s hs (p + 1) _ (by omega) _).mono ?_
  rintro e w' ⟨rfl, rfl⟩
  rw [m1]
  go_wp2_with fail
  refine (more_at s hs (p + 2) _ (by omega) _).mono ?_
  rintro e w' ⟨rfl, rfl⟩
  rw [m2]
  go_wp2
  go_ret3
  exact ⟨rfl, 0, rfl⟩

set_option maxRecDepth 100000 in
set_option maxHeartbeats 2000000 in
theorem at_four_no3 (s : ByteArray) (hs' : s.size ≤ 140737488355328) (p : Nat) (hp : p < s.size) (h0 : 240 ≤ (s[p]'hp).toNat) (h1 : (s[p]'hp).toNat ≤ 244) (m1 : mB s (p + 1) = true) (m2 : mB s (p + 2) = true) (m3 : mB s (p + 3) = false) (w : World) :
    Calls Tryd.prog 38 #[.string s, .int .i64 p] w fun e w' => e = .returned (.tuple #[.int .i64 65533, .int .i64 1, .bool true]) ∧ ∃ n, w' = w.drewN n := by
  have hs : s.size ≤ maxLen := by unfold maxLen; omega
  go_enter Tryd.func38, Tryd.ntmps38
  go_wp2_with fail
  refine (more_at s hs (p + 1) _ (by omega) _).mono ?_
  rintro e w' ⟨rfl, rfl⟩
  rw [m1]
  go_wp2_with fail
  refine (more_at s hs (p + 2) _ (by omega) _).mono ?_
  rintro e w' ⟨rfl, rfl⟩
  rw [m2]
  go_wp2_with fail
  refine (more_at s hs (p + 3) _ (by omega) _).mono ?_
  rintro e w' ⟨rfl, rfl⟩
  rw [m3]
  go_wp2
  go_ret3
  exact ⟨rfl, 0, rfl⟩

set_option maxRecDepth 100000 in
set_option maxHeartbeats 2000000 in
theorem at_four (s : ByteArray) (hs' : s.size ≤ 140737488355328) (p : Nat) (hp : p < s.size) (h0 : 240 ≤ (s[p]'hp).toNat) (h1 : (s[p]'hp).toNat ≤ 244) (hq : p + 1 < s.size) (k1 : 128 ≤ (s[p + 1]'hq).toNat) (k2 : (s[p + 1]'hq).toNat ≤ 191) (hr : p + 2 < s.size) (k3 : 128 ≤ (s[p + 2]'hr).toNat) (k4 : (s[p + 2]'hr).toNat ≤ 191) (ht : p + 3 < s.size) (k5 : 128 ≤ (s[p + 3]'ht).toNat) (k6 : (s[p + 3]'ht).toNat ≤ 191) (m1 : mB s (p + 1) = true) (m2 : mB s (p + 2) = true) (m3 : mB s (p + 3) = true) (hv : 65536 ≤ (((s[p]'hp).toNat - 240) * 262144 + ((s[p + 1]'hq).toNat - 128) * 4096 + ((s[p + 2]'hr).toNat - 128) * 64 + (s[p + 3]'ht).toNat - 128 : Int) ∧ (((s[p]'hp).toNat - 240) * 262144 + ((s[p + 1]'hq).toNat - 128) * 4096 + ((s[p + 2]'hr).toNat - 128) * 64 + (s[p + 3]'ht).toNat - 128 : Int) ≤ 1114111) (w : World) :
    Calls Tryd.prog 38 #[.string s, .int .i64 p] w fun e w' => e = .returned (.tuple #[.int .i64 (((s[p]'hp).toNat - 240) * 262144 + ((s[p + 1]'hq).toNat - 128) * 4096 + ((s[p + 2]'hr).toNat - 128) * 64 + (s[p + 3]'ht).toNat - 128 : Int), .int .i64 4, .bool false]) ∧ ∃ n, w' = w.drewN n := by
  have hs : s.size ≤ maxLen := by unfold maxLen; omega
  go_enter Tryd.func38, Tryd.ntmps38
  go_wp2_with fail
  refine (more_at s hs (p + 1) _ (by omega) _).mono ?_
  rintro e w' ⟨rfl, rfl⟩
  rw [m1]
  go_wp2_with fail
  refine (more_at s hs (p + 2) _ (by omega) _).mono ?_
  rintro e w' ⟨rfl, rfl⟩
  rw [m2]
  go_wp2_with fail
  refine (more_at s hs (p + 3) _ (by omega) _).mono ?_
  rintro e w' ⟨rfl, rfl⟩
  rw [m3]
  have i1 := idx_any s (p + 1) (p + 1) (by omega) hq
  have i2 := idx_any s (p + 2) (p + 2) (by omega) hr
  have i3 := idx_any s (p + 3) (p + 3) (by omega) ht
  go_wp2_with fail
  go_quiet (fail)
  clear i1 i2 i3
  generalize hrr : (((s[p]'hp).toNat - 240) * 262144 + ((s[p + 1]'hq).toNat - 128) * 4096 + ((s[p + 2]'hr).toNat - 128) * 64 + (s[p + 3]'ht).toNat - 128 : Int) = r at hv ⊢
  have HR : Hid ((((s[p]'hp).toNat - 240) * 262144 + ((s[p + 1]'hq).toNat - 128) * 4096 + ((s[p + 2]'hr).toNat - 128) * 64 + (s[p + 3]'ht).toNat - 128 : Int) = r) := hrr
  clear hrr
  obtain ⟨v1, v2⟩ := hv
  go_wp2
  go_ret3
  exact ⟨congrArg (fun z => Ending.returned (.tuple #[.int .i64 z, .int .i64 4, .bool false])) HR.out.symm, nq, rfl⟩

set_option maxRecDepth 100000 in
set_option maxHeartbeats 2000000 in
theorem at_four_bad (s : ByteArray) (hs' : s.size ≤ 140737488355328) (p : Nat) (hp : p < s.size) (h0 : 240 ≤ (s[p]'hp).toNat) (h1 : (s[p]'hp).toNat ≤ 244) (hq : p + 1 < s.size) (k1 : 128 ≤ (s[p + 1]'hq).toNat) (k2 : (s[p + 1]'hq).toNat ≤ 191) (hr : p + 2 < s.size) (k3 : 128 ≤ (s[p + 2]'hr).toNat) (k4 : (s[p + 2]'hr).toNat ≤ 191) (ht : p + 3 < s.size) (k5 : 128 ≤ (s[p + 3]'ht).toNat) (k6 : (s[p + 3]'ht).toNat ≤ 191) (m1 : mB s (p + 1) = true) (m2 : mB s (p + 2) = true) (m3 : mB s (p + 3) = true) (hv : (((s[p]'hp).toNat - 240) * 262144 + ((s[p + 1]'hq).toNat - 128) * 4096 + ((s[p + 2]'hr).toNat - 128) * 64 + (s[p + 3]'ht).toNat - 128 : Int) < 65536 ∨ (65536 ≤ (((s[p]'hp).toNat - 240) * 262144 + ((s[p + 1]'hq).toNat - 128) * 4096 + ((s[p + 2]'hr).toNat - 128) * 64 + (s[p + 3]'ht).toNat - 128 : Int) ∧ 1114111 < (((s[p]'hp).toNat - 240) * 262144 + ((s[p + 1]'hq).toNat - 128) * 4096 + ((s[p + 2]'hr).toNat - 128) * 64 + (s[p + 3]'ht).toNat - 128 : Int))) (w : World) :
    Calls Tryd.prog 38 #[.string s, .int .i64 p] w fun e w' => e = .returned (.tuple #[.int .i64 65533, .int .i64 1, .bool true]) ∧ ∃ n, w' = w.drewN n := by
  have hs : s.size ≤ maxLen := by unfold maxLen; omega
  go_enter Tryd.func38, Tryd.ntmps38
  go_wp2_with fail
  refine (more_at s hs (p + 1) _ (by omega) _).mono ?_
  rintro e w' ⟨rfl, rfl⟩
  rw [m1]
  go_wp2_with fail
  refine (more_at s hs (p + 2) _ (by omega) _).mono ?_
  rintro e w' ⟨rfl, rfl⟩
  rw [m2]
  go_wp2_with fail
  refine (more_at s hs (p + 3) _ (by omega) _).mono ?_
  rintro e w' ⟨rfl, rfl⟩
  rw [m3]
  have i1 := idx_any s (p + 1) (p + 1) (by omega) hq
  have i2 := idx_any s (p + 2) (p + 2) (by omega) hr
  have i3 := idx_any s (p + 3) (p + 3) (by omega) ht
  go_wp2_with fail
  go_quiet (fail)
  clear i1 i2 i3
  generalize (((s[p]'hp).toNat - 240) * 262144 + ((s[p + 1]'hq).toNat - 128) * 4096 + ((s[p + 2]'hr).toNat - 128) * 64 + (s[p + 3]'ht).toNat - 128 : Int) = r at *
  rcases hv with v1 | ⟨v1, v2⟩
  all_goals
    go_wp2
    go_ret3
    exact ⟨rfl, nq, rfl⟩

/-- At answers the character that begins there. -/
theorem at_any (s : ByteArray) (hs : s.size ≤ 140737488355328) (p : Nat) (hp : p < s.size) (w : World) :
    Calls Tryd.prog 38 #[.string s, .int .i64 p] w fun e w' => e = .returned (.tuple #[.int .i64 (rn s p), .int .i64 (wd s p), .bool (looseB s p)]) ∧ ∃ n, w' = w.drewN n := by
  have b0 : by8 s p = (s[p]'hp).toNat := by8_eq s p hp
  have hsh : Utf8.decode s p = Lib.decodeN (s.size - p) (by8 s p) (by8 s (p + 1)) (by8 s (p + 2)) (by8 s (p + 3)) := shape s p
  have hlt : by8 s p < 256 := (s.get! p).toNat_lt
  have loose : Utf8.decode s p = (65533, 1) → (Calls Tryd.prog 38 #[.string s, .int .i64 p] w fun e w' => e = .returned (.tuple #[.int .i64 65533, .int .i64 1, .bool true]) ∧ ∃ n, w' = w.drewN n) →
      Calls Tryd.prog 38 #[.string s, .int .i64 p] w fun e w' => e = .returned (.tuple #[.int .i64 (rn s p), .int .i64 (wd s p), .bool (looseB s p)]) ∧ ∃ n, w' = w.drewN n := by
    intro hd hc
    have e1 : rn s p = 65533 := by unfold rn; rw [hd]
    have e2 : wd s p = 1 := by unfold wd; rw [hd]
    have e3 : looseB s p = true := by unfold looseB; rw [e1, e2]; rfl
    rw [e1, e2, e3]
    exact hc
  have whole : ∀ (r k : Nat) (z : Int), Utf8.decode s p = (r, k) → z = (r : Int) → (r ≠ 65533 ∨ k ≠ 1) → (Calls Tryd.prog 38 #[.string s, .int .i64 p] w fun e w' => e = .returned (.tuple #[.int .i64 z, .int .i64 k, .bool false]) ∧ ∃ n, w' = w.drewN n) →
      Calls Tryd.prog 38 #[.string s, .int .i64 p] w fun e w' => e = .returned (.tuple #[.int .i64 (rn s p), .int .i64 (wd s p), .bool (looseB s p)]) ∧ ∃ n, w' = w.drewN n := by
    intro r k z hd hz hne hc
    have e1 : rn s p = r := by unfold rn; rw [hd]
    have e2 : wd s p = k := by unfold wd; rw [hd]
    have e3 : looseB s p = false := by unfold looseB; rw [e1, e2, decide_eq_false_iff_not]; omega
    rw [e1, e2, e3, ← hz]
    exact hc
  have mn : ∀ k, mB s (p + k) = false → p + k < s.size → by8 s (p + k) < 256 → by8 s (p + k) / 64 ≠ 2 := by
    intro k hm hk hl
    unfold mB at hm
    rw [decide_eq_false_iff_not] at hm
    omega
  have k1 : by8 s (p + 1) < 256 := (s.get! (p + 1)).toNat_lt
  have k2 : by8 s (p + 2) < 256 := (s.get! (p + 2)).toNat_lt
  have k3 : by8 s (p + 3) < 256 := (s.get! (p + 3)).toNat_lt
  by_cases c1 : by8 s p < 128
  · refine whole (by8 s p) 1 ((s[p]'hp).toNat : Int) ?_ (by omega) (by omega) (at_one s hs p hp (by omega) w)
    rw [hsh]; simp [Lib.decodeN, c1]
  by_cases c2 : by8 s p < 194 ∨ 244 < by8 s p
  · refine loose ?_ (at_none s hs p hp (by omega) (by omega) w)
    rw [hsh]
    rcases Lib.decodeN_shape (s.size - p) (by8 s p) (by8 s (p + 1)) (by8 s (p + 2)) (by8 s (p + 3)) with ⟨c, e⟩ | ⟨d1, d2, d3, dv, e⟩ | ⟨d1, d2, d3, d4, dv, ds, e⟩ | ⟨d1, d2, d3, d4, d5, dv, dw, e⟩ | e
    · omega
    · omega
    · omega
    · omega
    · exact e
  have d1 : ¬ by8 s p < 128 := c1
  by_cases c3 : by8 s p ≤ 223
  · cases m1 : mB s (p + 1) with
    | true =>
      obtain ⟨hq, g1, g2⟩ := mB_in m1
      have b1 := by8_eq s (p + 1) hq
      refine whole (by8 s p % 32 * 64 + by8 s (p + 1) % 64) 2 _ ?_ ?_ (by omega) (at_two s hs p hp (by omega) (by omega) hq g1 g2 m1 w)
      · rw [hsh]; unfold Lib.decodeN; rw [if_neg (by omega), if_pos (by omega), if_pos (by omega)]
      · omega
    | false =>
      refine loose ?_ (at_two_no s hs p hp (by omega) (by omega) m1 w)
      have := mn 1 m1
      rw [hsh]; unfold Lib.decodeN; rw [if_neg (by omega), if_neg (by omega), if_neg (by omega), if_neg (by omega)]
  by_cases c4 : by8 s p ≤ 239
  · cases m1 : mB s (p + 1) with
    | false =>
      refine loose ?_ (at_three_no s hs p hp (by omega) (by omega) m1 w)
      have := mn 1 m1
      rw [hsh]; unfold Lib.decodeN; rw [if_neg (by omega), if_neg (by omega), if_neg (by omega), if_neg (by omega)]
    | true =>
      obtain ⟨hq, g1, g2⟩ := mB_in m1
      have b1 := by8_eq s (p + 1) hq
      cases m2 : mB s (p + 2) with
      | false =>
        refine loose ?_ (at_three_no2 s hs p hp (by omega) (by omega) m1 m2 w)
        have := mn 2 m2
        rw [hsh]; unfold Lib.decodeN; rw [if_neg (by omega), if_neg (by omega), if_neg (by omega), if_neg (by omega)]
      | true =>
        obtain ⟨hr, g3, g4⟩ := mB_in m2
        have b2 := by8_eq s (p + 2) hr
        by_cases hv : 2048 ≤ by8 s p % 16 * 4096 + by8 s (p + 1) % 64 * 64 + by8 s (p + 2) % 64 ∧ (by8 s p % 16 * 4096 + by8 s (p + 1) % 64 * 64 + by8 s (p + 2) % 64 < 55296 ∨ 57343 < by8 s p % 16 * 4096 + by8 s (p + 1) % 64 * 64 + by8 s (p + 2) % 64)
        · refine whole (by8 s p % 16 * 4096 + by8 s (p + 1) % 64 * 64 + by8 s (p + 2) % 64) 3 _ ?_ ?_ (by omega) (at_three s hs p hp (by omega) (by omega) hq g1 g2 hr g3 g4 m1 m2 (by omega) w)
          · rw [hsh]; unfold Lib.decodeN; rw [if_neg (by omega), if_neg (by omega), if_pos (by omega), if_pos (by omega)]
          · omega
        · refine loose ?_ (at_three_bad s hs p hp (by omega) (by omega) hq g1 g2 hr g3 g4 m1 m2 (by omega) w)
          rw [hsh]; unfold Lib.decodeN; rw [if_neg (by omega), if_neg (by omega), if_pos (by omega), if_neg (by omega)]
  · cases m1 : mB s (p + 1) with
    | false =>
      refine loose ?_ (at_four_no s hs p hp (by omega) (by omega) m1 w)
      have := mn 1 m1
      rw [hsh]; unfold Lib.decodeN; rw [if_neg (by omega), if_neg (by omega), if_neg (by omega), if_neg (by omega)]
    | true =>
      obtain ⟨hq, g1, g2⟩ := mB_in m1
      have b1 := by8_eq s (p + 1) hq
      cases m2 : mB s (p + 2) with
      | false =>
        refine loose ?_ (at_four_no2 s hs p hp (by omega) (by omega) m1 m2 w)
        have := mn 2 m2
        rw [hsh]; unfold Lib.decodeN; rw [if_neg (by omega), if_neg (by omega), if_neg (by omega), if_neg (by omega)]
      | true =>
        obtain ⟨hr, g3, g4⟩ := mB_in m2
        have b2 := by8_eq s (p + 2) hr
        cases m3 : mB s (p + 3) with
        | false =>
          refine loose ?_ (at_four_no3 s hs p hp (by omega) (by omega) m1 m2 m3 w)
          have := mn 3 m3
          rw [hsh]; unfold Lib.decodeN; rw [if_neg (by omega), if_neg (by omega), if_neg (by omega), if_neg (by omega)]
        | true =>
          obtain ⟨ht, g5, g6⟩ := mB_in m3
          have b3 := by8_eq s (p + 3) ht
          by_cases hv : 65536 ≤ by8 s p % 8 * 262144 + by8 s (p + 1) % 64 * 4096 + by8 s (p + 2) % 64 * 64 + by8 s (p + 3) % 64 ∧ by8 s p % 8 * 262144 + by8 s (p + 1) % 64 * 4096 + by8 s (p + 2) % 64 * 64 + by8 s (p + 3) % 64 ≤ 1114111
          · refine whole (by8 s p % 8 * 262144 + by8 s (p + 1) % 64 * 4096 + by8 s (p + 2) % 64 * 64 + by8 s (p + 3) % 64) 4 _ ?_ ?_ (by omega) (at_four s hs p hp (by omega) (by omega) hq g1 g2 hr g3 g4 ht g5 g6 m1 m2 m3 (by omega) w)
            · rw [hsh]; unfold Lib.decodeN; rw [if_neg (by omega), if_neg (by omega), if_neg (by omega), if_pos (by omega), if_pos (by omega)]
            · omega
          · refine loose ?_ (at_four_bad s hs p hp (by omega) (by omega) hq g1 g2 hr g3 g4 ht g5 g6 m1 m2 m3 (by omega) w)
            rw [hsh]; unfold Lib.decodeN; rw [if_neg (by omega), if_neg (by omega), if_neg (by omega), if_pos (by omega), if_neg (by omega)]
end Go.Proofs.YtibhljdiofglfaaDoor
