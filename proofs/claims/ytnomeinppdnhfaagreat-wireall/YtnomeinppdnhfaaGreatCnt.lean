/- idset.Count, Subset, Has, Order; cmp.Compare: what they answer, at every input. -/
import Derived.Test.YtnomeinppdnhfaaGreatUni
namespace Go.Proofs.YtnomeinppdnhfaaGreat
open Go.RowKit Go.Shelf Go.Lib

theorem Holds4.carry {w w' : World} {b : Nat} {c : Nat → Nat} (h : Holds4 w b c) (hb : Below w.heap.size w w') : Holds4 w' b c := h.keep hb (Array.getElem?_eq_some_iff.1 h).1
theorem bcarry {w0 w w' : World} {B : Nat} (h : Below B w0 w) (hB : B ≤ w0.heap.size) (hb : Below w.heap.size w w') : Below B w0 w' := h.trans (hb.mono (Nat.le_trans hB h.size))
theorem eqStep (A B j : Nat) (hj : j < 4) (is : List Nat) (w : World) : (Op.eqItems 9999 39 1 (cells4 (wd A)) (cells4 (wd B)) (j :: is)).run Tryz.prog w = if wd A j = wd B j then (Op.eqItems 9999 39 1 (cells4 (wd A)) (cells4 (wd B)) is).run Tryz.prog w else .ok false w := by
  have he : Tryz.prog.plainKey 39 = true := by kernel_rfl
  have p1 := run_part_plain (P := Tryz.prog) w he (off := j * 1) (by rw [Nat.mul_one]; exact cells4_get (wd A) j hj)
  have p2 := run_part_plain (P := Tryz.prog) w he (off := j * 1) (by rw [Nat.mul_one]; exact cells4_get (wd B) j hj)
  have p3 := run_equalIn_int (P := Tryz.prog) w 9998 39 .u32 .u32 (wd A j : Int) (wd B j : Int) Tryz.underlying39
  rw [Op.eqItems]
  simp only [Sem.run_bind, p1, p2, Result.andThen_ok]
  rw [p3]
  simp only [Result.andThen_ok]
  by_cases h : wd A j = wd B j
  · simp [h]
  · have h2 : ((wd A j : Int) == (wd B j : Int)) = false := by simp; omega
    simp [h, h2]
theorem eqn4 (A B : Nat) (hA : A < S128) (hB : B < S128) (w : World) : (Op.equalIn 10000 41 (sv A) (sv B)).run Tryz.prog w = .ok (decide (A = B)) w := by
  have hi : (Tryz.prog.info? 39).isSome = true := by kernel_rfl
  obtain ⟨i, hi⟩ := Option.isSome_iff_exists.1 hi
  have hc : Tryz.prog.cellsOf 39 = 1 := by kernel_rfl
  rw [sv_cells, sv_cells, run_equalIn_array w 9999 _ _ Tryz.underlying41 hi, hc, show List.range 4 = [0, 1, 2, 3] from rfl]
  rw [eqStep A B 0 (by decide), eqStep A B 1 (by decide), eqStep A B 2 (by decide), eqStep A B 3 (by decide)]
  by_cases e : A = B
  · subst e; simp [Op.eqItems]
  · have hn : ¬ (wd A 0 = wd B 0 ∧ wd A 1 = wd B 1 ∧ wd A 2 = wd B 2 ∧ wd A 3 = wd B 3) := fun h => e (ext_wd hA hB h.1 h.2.1 h.2.2.1 h.2.2.2)
    simp only [e, decide_false]
    by_cases h0 : wd A 0 = wd B 0
    · by_cases h1 : wd A 1 = wd B 1
      · by_cases h2 : wd A 2 = wd B 2
        · by_cases h3 : wd A 3 = wd B 3
          · exact absurd ⟨h0, h1, h2, h3⟩ hn
          · simp [h0, h1, h2, h3]
        · simp [h0, h1, h2]
      · simp [h0, h1]
    · simp [h0]
theorem eql4 (x y : Operand) (A B : Nat) (hA : A < S128) (hB : B < S128) (w : World) : binRun Tryz.prog .eql 41 x y (sv A) (sv B) w = .ok (.bool (decide (A = B))) w := by
  have h := eqn4 A B hA hB w
  unfold sv at h
  unfold binRun sv
  go_simp
theorem neq4 (x y : Operand) (A B : Nat) (hA : A < S128) (hB : B < S128) (w : World) : binRun Tryz.prog .neq 41 x y (sv A) (sv B) w = .ok (.bool (!decide (A = B))) w := by
  have h := eqn4 A B hA hB w
  unfold sv at h
  unfold binRun sv
  go_simp
def sumW (M : Nat) : Nat → Nat
  | 0 => 0
  | k + 1 => sumW M k + popAux 32 (wd M k)
theorem sumW_4 (M : Nat) : sumW M 4 = cnt M := by simp [sumW, cnt_words]
theorem sumW_le (M : Nat) : ∀ k, sumW M k ≤ 32 * k
  | 0 => Nat.le_refl _
  | k + 1 => by have := sumW_le M k; have := popAux_le 32 (wd M k); simp only [sumW]; omega
theorem idxv4 (M k : Nat) (hk : k < 4) (w : World) : (Instr.index 41 (sv M) (.int .i64 (k : Int))).run Tryz.prog w = .ok (.int .u32 (wd M k : Nat)) w := by
  have h1 : (k : Int) < 4 := by omega
  have h2 : 0 ≤ (k : Int) := by omega
  have he : Tryz.prog.plainKey 39 = true := by kernel_rfl
  have hi : (Tryz.prog.info? 39).isSome = true := by kernel_rfl
  obtain ⟨i, hi⟩ := Option.isSome_iff_exists.1 hi
  have hc : Tryz.prog.cellsOf 39 = 1 := by kernel_rfl
  have p1 := run_part_plain (P := Tryz.prog) w he (off := k * 1) (by rw [Nat.mul_one]; exact cells4_get (wd M) k hk)
  rw [sv_cells]
  simp only [Instr.index, asIntOf, Sem.run_bind, Sem.run_pure, Result.andThen_ok, run_underlying Tryz.underlying41]
  have h3 : (0 : Int) ≤ (k : Int) ∧ (k : Int) < ((4 : Nat) : Int) := ⟨h2, by omega⟩
  rw [if_pos h3]
  simp only [Sem.run_bind, run_sizeOf w hi, Result.andThen_ok, hc, Int.toNat_natCast]
  exact p1
end Go.Proofs.YtnomeinppdnhfaaGreat
