/- notice's rivals, Beats, Max, Fresh, Reply, Valid: what they answer, at every notice. -/
import Derived.Test.YtnomeinppdnhfaaGreatNtr
import Derived.Test.YtnomeinppdnhfaaGreatBin
import Derived.Test.YtnomeinppdnhfaaGreatRgf
namespace Go.Proofs.YtnomeinppdnhfaaGreat
open Go.RowKit Go.Shelf

theorem rk_ok {t k : Int} : rk t k ≠ -1 ↔ 0 ≤ t ∧ t ≤ 1048576 ∧ (k = 1 ∨ k = 2) := by
  unfold rk
  by_cases h : t < 0 ∨ 1048576 < t
  · rw [if_pos h]; omega
  · rw [if_neg h]
    by_cases k1 : k = 1
    · rw [if_pos k1]; omega
    · rw [if_neg k1]
      by_cases k2 : k = 2
      · rw [if_pos k2]; omega
      · rw [if_neg k2]; omega
theorem rk_neg {t k : Int} : rk t k = -1 ∨ 0 ≤ rk t k := by
  unfold rk
  by_cases h : t < 0 ∨ 1048576 < t
  · rw [if_pos h]; omega
  · rw [if_neg h]
    by_cases k1 : k = 1
    · rw [if_pos k1]; omega
    · rw [if_neg k1]
      by_cases k2 : k = 2
      · rw [if_pos k2]; omega
      · rw [if_neg k2]; omega
theorem rk_inj {t k t' k' : Int} (h : rk t k = rk t' k') (h1 : rk t k ≠ -1) : t = t' ∧ k = k' := by
  unfold rk at h h1
  repeat' split at h
  all_goals (try omega)
  all_goals (simp_all <;> omega)
/-- Is it a notice of one of n nodes? -/
def vl (n o t k : Int) : Bool := decide (1 ≤ n ∧ n ≤ 100 ∧ 0 ≤ o ∧ o < n ∧ rk t k ≠ -1)
set_option maxHeartbeats 1000000 in
theorem valid_any (n o t k : Int) (w : World) : Calls Tryz.prog 118 #[.int .i64 n, nt o t k] w fun e w' => e = .returned (.bool (vl n o t k)) ∧ Below w.heap.size w w' := by
  have hr1 := rank_any o t k
  unfold vl
  unfold nt at *
  generalize rk t k = r at *
  by_cases h1 : 1 ≤ n ∧ n ≤ 100 ∧ 0 ≤ o ∧ o < n
  · obtain ⟨a1, a2, a3, a4⟩ := h1
    go_enter Tryz.func118, Tryz.ntmps118
    go_wp2_with (go_at_call 121; (with_reducible refine (hr1 _).mono ?_); rintro e u1 ⟨rfl, hb1⟩)
    go_ret
    exact ⟨by by_cases h2 : r = -1 <;> simp [*], bel2 ((Below.refl _ w).alloc (by simp) _) hb1⟩
  · have hv : decide (1 ≤ n ∧ n ≤ 100 ∧ 0 ≤ o ∧ o < n ∧ r ≠ -1) = false := decide_eq_false (fun ⟨a, b, c, d, _⟩ => h1 ⟨a, b, c, d⟩)
    rw [hv]
    have h2 : n < 1 ∨ (1 ≤ n ∧ 100 < n) ∨ (1 ≤ n ∧ n ≤ 100 ∧ o < 0) ∨ (1 ≤ n ∧ n ≤ 100 ∧ 0 ≤ o ∧ n ≤ o) := by omega
    clear hv h1
    rcases h2 with h | ⟨h, h'⟩ | ⟨h, h', h''⟩ | ⟨h, h', h'', h3⟩
    all_goals
      go_enter Tryz.func118, Tryz.ntmps118
      go_wp2
      go_ret
      exact ⟨rfl, (Below.refl _ w).alloc (by simp) _⟩
end Go.Proofs.YtnomeinppdnhfaaGreat
