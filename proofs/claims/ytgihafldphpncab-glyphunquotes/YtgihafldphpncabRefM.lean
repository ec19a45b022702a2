/- What Count, Plain and Chars of the document answer: at every text of at most 2^20 bytes; and how two lists of characters are compared. -/
import Derived.Test.YtgihafldphpncabRefL
import Derived.Deep.QuietTactic
import Derived.BigQuiet
namespace Go.Proofs.Ytgihafldphpncab
open Go.RowKit Go.Shelf

theorem below_drewN {n : Nat} {w a : World} (h : Below n w a) (k : Nat) : Below n w (a.drewN k) := h.trans ⟨rfl, rfl, rfl, Nat.le_refl _, fun _ _ => rfl⟩

set_option maxHeartbeats 1000000 in
theorem refCount_any (s : ByteArray) (hs : s.size ≤ 1048576) (w : World) :
    Calls Try.prog 13 #[.string s] w fun e w' => e = .returned (.int .i64 (starts s).length) ∧ Below w.heap.size w w' := by
  have hlen := starts_length s
  go_enter Try.func13, Try.ntmps13
  go_wp2
  go_loopw [3, 4] (fun c i wr => ∃ (pos fuel : Nat) (pre : List Nat), starts s = pre ++ startsFrom s fuel pos ∧ s.size ≤ pos + fuel ∧ c = .int .i64 pre.length ∧ i = .int .i64 pos ∧ Below w.heap.size w wr) (fun _ i _ => s.size - (intOf i).toNat)
  case atStart => exact ⟨0, s.size, [], rfl, by omega, rfl, rfl, Below.refl _ w⟩
  case round =>
    obtain ⟨pos, fuel, pre, hst, hfu, rfl, rfl, hb⟩ := hrel
    by_cases hp : pos < s.size
    · obtain ⟨f, rfl⟩ : ∃ f, fuel = f + 1 := ⟨fuel - 1, by omega⟩
      rw [startsFrom_step s f pos hp] at hst
      have hll : pre.length + 1 ≤ s.size := by rw [hst] at hlen; simp at hlen; omega
      have hw1 := wd_le s pos hp
      have hw0 := wd_pos s pos
      have hpi : (pos : Int) < (s.size : Int) := by omega
      have HS : Hid (starts s = pre ++ pos :: startsFrom s f (pos + wd s pos)) := hst
      clear hst
      go_wp2_with fail
      refine (at_any s (by omega) pos hp _).mono ?_
      rintro e w1 ⟨rfl, nq, rfl⟩
      have hb1 := below_drewN hb nq
      go_wp2
      go_roundw
      case rel => exact ⟨pos + wd s pos, f, pre ++ [pos], by rw [HS.out]; simp, by omega, by simp, by go_num, hb1⟩
      case measure =>
        simp [intOf]
        omega
    · rw [startsFrom_end s fuel pos hp, List.append_nil] at hst
      subst hst
      go_wp2
      go_ret
      exact ⟨rfl, hb⟩

set_option maxHeartbeats 1000000 in
theorem refPlain_any (s : ByteArray) (hs : s.size ≤ 1048576) (w : World) :
    Calls Try.prog 15 #[.string s] w fun e w' => e = .returned (.bool (plainB s)) ∧ Below w.heap.size w w' := by
  have hlen := starts_length s
  go_enter Try.func15, Try.ntmps15
  go_wp2
  go_loopw [3] (fun i wr => ∃ (pos fuel : Nat) (pre : List Nat), starts s = pre ++ startsFrom s fuel pos ∧ s.size ≤ pos + fuel ∧ i = .int .i64 pos ∧ (∀ p ∈ pre, looseB s p = false) ∧ Below w.heap.size w wr) (fun i _ => s.size - (intOf i).toNat)
  case atStart => exact ⟨0, s.size, [], rfl, by omega, rfl, by simp, Below.refl _ w⟩
  case round =>
    obtain ⟨pos, fuel, pre, hst, hfu, rfl, hpl, hb⟩ := hrel
    by_cases hp : pos < s.size
    · obtain ⟨f, rfl⟩ : ∃ f, fuel = f + 1 := ⟨fuel - 1, by omega⟩
      rw [startsFrom_step s f pos hp] at hst
      have hw1 := wd_le s pos hp
      have hw0 := wd_pos s pos
      have hpi : (pos : Int) < (s.size : Int) := by omega
      have HS : Hid (starts s = pre ++ pos :: startsFrom s f (pos + wd s pos)) := hst
      clear hst
      have ha := at_any s (by omega) pos hp
      cases hL : looseB s pos with
      | true =>
        rw [hL] at ha
        have HP : Hid (plainB s = false) := by
          show plainB s = false
          unfold plainB
          rw [List.all_eq_false]
          exact ⟨pos, by rw [HS.out]; simp, by simp [hL]⟩
        go_wp2_with fail
        refine (ha _).mono ?_
        rintro e w1 ⟨rfl, nq, rfl⟩
        have hb1 := below_drewN hb nq
        go_wp2
        go_ret
        rw [HP.out]
        exact ⟨rfl, hb1⟩
      | false =>
        rw [hL] at ha
        go_wp2_with fail
        refine (ha _).mono ?_
        rintro e w1 ⟨rfl, nq, rfl⟩
        have hb1 := below_drewN hb nq
        go_wp2
        go_roundw
        case rel => exact ⟨pos + wd s pos, f, pre ++ [pos], by rw [HS.out]; simp, by omega, by go_num, fun p hq => (List.mem_append.1 hq).elim (hpl p) (fun h => by rw [List.mem_singleton.1 h]; exact hL), hb1⟩
        case measure =>
          simp [intOf]
          omega
    · rw [startsFrom_end s fuel pos hp, List.append_nil] at hst
      subst hst
      have HP : Hid (plainB s = true) := by
        show plainB s = true
        unfold plainB
        rw [List.all_eq_true]
        intro p hq
        simp [hpl p hq]
      go_wp2
      go_ret
      rw [HP.out]
      exact ⟨rfl, hb⟩

set_option maxHeartbeats 1000000 in
theorem refChars_any (s : ByteArray) (hs : s.size ≤ 65536) (w : World) :
    Calls Try.prog 10 #[.string s] w fun e w' => ∃ v, e = .returned (.tuple #[v, .int .i64 0]) ∧ w'.ownsRow w.heap.size 32 4 v (starts s).length (flat s (starts s)) ∧ Below w.heap.size w w' := by
  have hgt : decide (65536 < (s.size : Int)) = false := by simp; omega
  go_enter Try.func10, Try.ntmps10
  go_wp2_with fail
  refine (list_any s (by omega) _).mono ?_
  rintro e w1 ⟨v, rfl, hrow, hb⟩
  obtain ⟨ad, cap, rfl, _⟩ := ownsRow_form hrow
  go_wp2
  go_ret2
  exact ⟨_, rfl, hrow, hb⟩
set_option maxHeartbeats 1000000 in
theorem refChars_long (s : ByteArray) (hs : 65536 < s.size) (w : World) :
    Calls Try.prog 10 #[.string s] w fun e w' => e = .returned (.tuple #[.slice none 0 0, .int .i64 2]) ∧ Below w.heap.size w w' := by
  have hgt : decide (65536 < (s.size : Int)) = true := by simp; omega
  go_enter Try.func10, Try.ntmps10
  go_wp2
  go_ret2
  exact ⟨rfl, Below.refl _ _⟩
set_option maxHeartbeats 1000000 in
theorem chars_long (s : ByteArray) (hs : 65536 < s.size) (w : World) :
    Calls Try.prog 9 #[.string s] w fun e w' => e = .returned (.tuple #[.slice none 0 0, .int .i64 2]) ∧ Below w.heap.size w w' := by
  have hgt : decide (65536 < (s.size : Int)) = true := by simp; omega
  go_enter Try.func9, Try.ntmps9
  go_wp2
  go_ret2
  exact ⟨rfl, Below.refl _ _⟩
end Go.Proofs.Ytgihafldphpncab
