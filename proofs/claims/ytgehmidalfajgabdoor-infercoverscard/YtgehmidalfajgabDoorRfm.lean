/- idset.Within; the document's Of, Full, Within: what they answer, at every input. -/
import Derived.Test.YtgehmidalfajgabDoorRfs
import Derived.Test.YtgehmidalfajgabDoorWth
import Derived.Test.YtgehmidalfajgabDoorWtn
namespace Go.Proofs.YtgehmidalfajgabDoor
open Go.RowKit Go.Shelf Go.Lib

theorem ofN_lt : ∀ (ids : List Int) (N M : Nat), N < S100 → ofN ids N = some M → M < S100
  | [], N, M, h, e => by simp [ofN] at e; omega
  | x :: r, N, M, h, e => by
    rw [ofN] at e
    split at e
    · rename_i hx
      refine ofN_lt r _ M ?_ e
      exact Nat.or_lt_two_pow (n := 100) h (Nat.pow_lt_pow_right (by decide) (by omega))
    · cases e
set_option maxHeartbeats 1000000 in
set_option maxRecDepth 100000 in
theorem rWithin_any (N : Nat) (hN : N < S128) (n : Int) (w : World) : Calls Tryd.prog 15 #[sv N, .int .i64 n] w fun e w' => e = .returned (.bool (wthB N n)) ∧ Below w.heap.size w w' := by
  simp only [sv]
  go_enter Tryd.func15, Tryd.ntmps15
  go_wp2
  go_loopw [5] (fun c wz => ∃ k : Nat, c = .int .i64 k ∧ k ≤ 128 ∧ (∀ i, i < k → N.testBit i = true → i < topW n) ∧ Holds4 wz w.heap.size (wd N) ∧ Below w.heap.size w wz) (fun c _ => 128 - vnat c)
  case atStart => exact ⟨0, rfl, by omega, fun i h => by omega, get_new (by simp), alloc_below w _⟩
  case round =>
    obtain ⟨k, rfl, hk, he, h1, hb⟩ := hrel
    by_cases hk4 : k < 128
    · have hki : (k : Int) < 128 := by omega
      have hq : k / 32 < 4 := by omega
      have hq' : (k : Int) / 32 < 4 := by omega
      have hc1 := h1.cell (k / 32) hq
      have hbit : (bits BinOp.and IntKind.u32 ((wd N (k / 32) : Int) / 2 ^ (k % 32)) 1 == 1) = N.testBit k := by
        have e : (wd N (k / 32) : Int) / 2 ^ (k % 32) = ((wd N (k / 32) / 2 ^ (k % 32) : Nat) : Int) := by simp
        have hl : wd N (k / 32) / 2 ^ (k % 32) < 4294967296 := Nat.lt_of_le_of_lt (Nat.div_le_self _ _) (wd_lt N _)
        rw [e, show (1 : Int) = ((1 : Nat) : Int) from rfl, u32_and_nat _ _ hl (by omega), ← bit_word N k, ← shr_bit]
        by_cases h : wd N (k / 32) / 2 ^ (k % 32) &&& 1 = 1
        · rw [h]; rfl
        · have h2 : ¬ ((wd N (k / 32) / 2 ^ (k % 32) &&& 1 : Nat) : Int) = ((1 : Nat) : Int) := by omega
          rw [beq_eq_false_iff_ne.2 h, beq_eq_false_iff_ne.2 h2]
      have hbad : N.testBit k = true → ¬ k < topW n → wthB N n = false := by
        intro h2 h3
        unfold wthB
        rw [decide_eq_false_iff_not]
        intro h4
        have h5 : (N % 2 ^ topW n).testBit k = true := by rw [← h4]; exact h2
        rw [Nat.testBit_mod_two_pow] at h5
        simp [h3] at h5
      have htop := topW_lt n k
      cases hb0 : N.testBit k
      · rw [hb0] at hbit
        clear hbad htop
        go_wp2
        go_roundw
        case rel => exact ⟨k + 1, by simp, by omega, fun i hi h2 => by
          by_cases e : i = k
          · subst e; rw [hb0] at h2; cases h2
          · exact he i (by omega) h2, h1, hb⟩
        case measure => simp only [vnat]; omega
      · rw [hb0] at hbit hbad
        by_cases t1 : (k : Int) ≥ n
        · have t1' : n ≤ (k : Int) := t1
          have hres := hbad rfl (fun c => by have := htop.1 c; omega)
          clear hbad htop
          go_wp2
          go_ret
          first | exact ⟨rfl, hb⟩ | exact ⟨ret_bool hres.symm, hb⟩
        · by_cases t2 : (k : Int) ≥ 100
          · have t2' : 100 ≤ (k : Int) := t2
            have hres := hbad rfl (fun c => by have := htop.1 c; omega)
            clear hbad htop
            go_wp2
            go_ret
            first | exact ⟨rfl, hb⟩ | exact ⟨ret_bool hres.symm, hb⟩
          · have hkt : k < topW n := htop.2 ⟨by omega, by omega⟩
            clear hbad htop
            go_wp2
            go_roundw
            case rel => exact ⟨k + 1, by simp, by omega, fun i hi h2 => by
              by_cases e : i = k
              · subst e; exact hkt
              · exact he i (by omega) h2, h1, hb⟩
            case measure => simp only [vnat]; omega
    · have hk5 : k = 128 := by omega
      subst hk5
      have hres : wthB N n = true := by
        unfold wthB
        rw [decide_eq_true_eq]
        apply Nat.eq_of_testBit_eq; intro i
        rw [Nat.testBit_mod_two_pow]
        by_cases hi : i < 128
        · cases h2 : N.testBit i with
          | false => simp
          | true => simp [he i hi h2]
        · have : N.testBit i = false := Nat.testBit_lt_two_pow (Nat.lt_of_lt_of_le hN (Nat.pow_le_pow_right (n := 2) (i := 128) (by decide) (by omega)))
          simp [this]
      go_wp2
      go_ret
      first | exact ⟨rfl, hb⟩ | exact ⟨ret_bool hres.symm, hb⟩
end Go.Proofs.YtgehmidalfajgabDoor
