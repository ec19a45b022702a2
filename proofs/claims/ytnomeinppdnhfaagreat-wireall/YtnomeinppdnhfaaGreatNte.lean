/- The document's answers of chapter 5: what they say, at every notice. -/
import Derived.Test.YtnomeinppdnhfaaGreatNtd
namespace Go.Proofs.YtnomeinppdnhfaaGreat
open Go.RowKit Go.Shelf

set_option maxHeartbeats 2000000 in
theorem rValid_any (n o t k : Int) (w : World) : Calls Tryz.prog 79 #[.int .i64 n, nt o t k] w fun e w' => e = .returned (.bool (vl n o t k)) ∧ Below w.heap.size w w' := by
  by_cases h : 1 ≤ n ∧ n ≤ 100 ∧ 0 ≤ o ∧ o < n ∧ rk t k ≠ -1
  · have hv : vl n o t k = true := decide_eq_true h
    rw [hv]
    obtain ⟨a1, a2, a3, a4, a5⟩ := h
    obtain ⟨a6, a7, a8⟩ := rk_ok.1 a5
    clear hv a5
    unfold nt
    rcases a8 with rfl | rfl
    all_goals
      go_enter Tryz.func79, Tryz.ntmps79
      go_wp2
      go_ret
      exact ⟨rfl, al1 _ _⟩
  · have hv : vl n o t k = false := decide_eq_false h
    rw [hv]
    have h2 : n < 1 ∨ (1 ≤ n ∧ 100 < n) ∨ (1 ≤ n ∧ n ≤ 100 ∧ o < 0) ∨ (1 ≤ n ∧ n ≤ 100 ∧ 0 ≤ o ∧ n ≤ o) ∨ (1 ≤ n ∧ n ≤ 100 ∧ 0 ≤ o ∧ o < n ∧ t < 0) ∨ (1 ≤ n ∧ n ≤ 100 ∧ 0 ≤ o ∧ o < n ∧ 0 ≤ t ∧ 1048576 < t) ∨ (1 ≤ n ∧ n ≤ 100 ∧ 0 ≤ o ∧ o < n ∧ 0 ≤ t ∧ t ≤ 1048576 ∧ ¬ k = 1 ∧ ¬ k = 2) := by
      rw [rk_ok] at h
      omega
    clear hv h
    unfold nt
    rcases h2 with a1 | ⟨a1, a2⟩ | ⟨a1, a2, a3⟩ | ⟨a1, a2, a3, a4⟩ | ⟨a1, a2, a3, a4, a5⟩ | ⟨a1, a2, a3, a4, a5, a6⟩ | ⟨a1, a2, a3, a4, a5, a6, a7, a8⟩
    all_goals
      go_enter Tryz.func79, Tryz.ntmps79
      go_wp2
      go_ret
      first | exact ⟨rfl, al1 _ _⟩ | exact ⟨(show Ending.returned (.bool (k == 1 || k == 2)) = .returned (.bool false) by simp [a7, a8]), al1 _ _⟩
end Go.Proofs.YtnomeinppdnhfaaGreat
