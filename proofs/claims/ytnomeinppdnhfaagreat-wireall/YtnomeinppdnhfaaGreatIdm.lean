/- The ids of a set, as a list: arithmetic alone. -/
import Derived.Test.YtnomeinppdnhfaaGreatMat
namespace Go.Proofs.YtnomeinppdnhfaaGreat
open Go.Lib

/-! the ids of a set, as a list -/
def idsTo (M n : Nat) : List Nat := (List.range n).filter M.testBit
theorem idsTo_succ (M n : Nat) : idsTo M (n + 1) = idsTo M n ++ (if M.testBit n then [n] else []) := by
  unfold idsTo
  rw [List.range_succ, List.filter_append]
  cases h : M.testBit n <;> simp [h]
theorem idsTo_gap (M n : Nat) : ∀ k, (∀ i, n ≤ i → i < n + k → M.testBit i = false) → idsTo M (n + k) = idsTo M n
  | 0, _ => rfl
  | k + 1, h => by
    rw [← Nat.add_assoc, idsTo_succ, h (n + k) (by omega) (by omega), idsTo_gap M n k (fun i h1 h2 => h i h1 (by omega))]
    simp
theorem idsTo_next (M n t : Nat) (hn : n ≤ t) (h : ∀ i, n ≤ i → i < t → M.testBit i = false) (ht : M.testBit t = true) : idsTo M (t + 1) = idsTo M n ++ [t] := by
  rw [idsTo_succ, ht]
  have := idsTo_gap M n (t - n) (fun i h1 h2 => h i h1 (by omega))
  rw [show n + (t - n) = t by omega] at this
  rw [this]; rfl
theorem idsTo_prefix (M : Nat) {n m : Nat} (h : n ≤ m) : idsTo M n <+: idsTo M m := by
  obtain ⟨k, rfl⟩ : ∃ k, m = n + k := ⟨m - n, by omega⟩
  induction k with
  | zero => exact List.prefix_rfl
  | succ k ih => rw [← Nat.add_assoc, idsTo_succ]; exact (ih (by omega)).trans (List.prefix_append _ _)
theorem idsTo_length (M : Nat) : ∀ n, (idsTo M n).length = popAux n M
  | 0 => rfl
  | n + 1 => by rw [idsTo_succ, List.length_append, idsTo_length M n, popAux_succ']; cases M.testBit n <;> rfl
theorem mem_idsTo {M n i : Nat} : i ∈ idsTo M n ↔ i < n ∧ M.testBit i = true := by simp [idsTo]
/-- A word of which the lowest p bits are struck. -/
def High (x y p : Nat) : Prop := ∀ i, x.testBit i = (decide (p ≤ i) && y.testBit i)
theorem testBit_ctz (x : Nat) (h0 : x ≠ 0) (h : x < 4294967296) : x.testBit (ctz 32 x) = true ∧ (∀ i, i < ctz 32 x → x.testBit i = false) ∧ ctz 32 x < 32 ∧ (x &&& (x - 1)).testBit (ctz 32 x) = false ∧ (∀ i, ctz 32 x < i → (x &&& (x - 1)).testBit i = x.testBit i) := by
  have hz : ctz 32 x = ctzFrom 32 x := by simp [ctz, h0]
  obtain ⟨m, hm, hk⟩ := ctzFrom_spec 32 x (by omega) h
  rw [← hz] at hm hk
  generalize ctz 32 x = k at *
  have h1 : x - 1 = 2 ^ k * (2 * m) + (2 ^ k - 1) := by
    have := Nat.one_le_two_pow (n := k)
    rw [hm, Nat.mul_add]; omega
  have b1 : ∀ i, x.testBit i = (decide (k ≤ i) && (2 * m + 1).testBit (i - k)) := fun i => by rw [hm, Nat.mul_comm, Nat.testBit_mul_two_pow]
  have b2 : ∀ i, k ≤ i → (x - 1).testBit i = (2 * m).testBit (i - k) := fun i hi => by
    have e : (x - 1) / 2 ^ k = 2 * m := by
      rw [h1, Nat.mul_add_div (Nat.two_pow_pos k), Nat.div_eq_of_lt (by have := Nat.two_pow_pos k; omega)]; rfl
    rw [← e, Nat.testBit_div_two_pow]
    congr 1; omega
  refine ⟨by rw [b1]; simp [Nat.testBit_zero], fun i hi => by rw [b1]; simp; omega, hk, ?_, fun i hi => ?_⟩
  · rw [Nat.testBit_and, b2 k (Nat.le_refl _)]
    simp [Nat.testBit_zero]
  · rw [Nat.testBit_and, b2 i (by omega), b1]
    obtain ⟨d, hd⟩ : ∃ d, i - k = d + 1 := ⟨i - k - 1, by omega⟩
    rw [hd, Nat.testBit_succ, Nat.testBit_succ]
    have e1 : (2 * m + 1) / 2 = m := by omega
    have e2 : (2 * m) / 2 = m := by omega
    rw [e1, e2]
    cases m.testBit d <;> simp
theorem High.next {x y p : Nat} (h : High x y p) (h0 : x ≠ 0) (hx : x < 4294967296) : p ≤ ctz 32 x ∧ y.testBit (ctz 32 x) = true ∧ (∀ i, p ≤ i → i < ctz 32 x → y.testBit i = false) ∧ High (x &&& (x - 1)) y (ctz 32 x + 1) := by
  obtain ⟨c1, c2, c3, c4, c5⟩ := testBit_ctz x h0 hx
  generalize ctz 32 x = k at *
  have a1 := h k
  rw [c1] at a1
  simp only [Bool.true_eq, Bool.and_eq_true, decide_eq_true_eq] at a1
  refine ⟨a1.1, a1.2, fun i h1 h2 => ?_, fun i => ?_⟩
  · have := h i
    rw [c2 i h2] at this
    simpa [h1] using this.symm
  · by_cases e : k + 1 ≤ i
    · rw [c5 i (by omega), h i]
      simp [show p ≤ i by omega, e]
    · simp only [e, decide_false, Bool.false_and]
      by_cases e2 : i = k
      · rw [e2]; exact c4
      · rw [Nat.testBit_and, c2 i (by omega)]; rfl
theorem and_pred_lt (x : Nat) (h : x ≠ 0) : x &&& (x - 1) < x := Nat.lt_of_le_of_lt Nat.and_le_right (by omega)
theorem idsTo_cln (N : Nat) : idsTo (cln N) 128 = idsTo N 100 := by
  have h1 : idsTo (cln N) (100 + 28) = idsTo (cln N) 100 := idsTo_gap _ _ _ (fun i h1 _ => by rw [testBit_cln]; simp; omega)
  have h2 : idsTo (cln N) 100 = idsTo N 100 := by
    unfold idsTo
    apply List.filter_congr
    intro i hi
    rw [testBit_cln]
    simp [List.mem_range.1 hi]
  exact h1.trans h2
/-- The first of a list; -1: there is none. -/
def headZ (l : List Nat) : Int := match l with | [] => -1 | x :: _ => x
def intsV (l : List Nat) : List Value := l.map fun x : Nat => .int .i64 (x : Int)
end Go.Proofs.YtnomeinppdnhfaaGreat
