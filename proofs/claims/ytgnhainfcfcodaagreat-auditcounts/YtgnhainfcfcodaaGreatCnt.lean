/- idset.Count, Subset, Has, Order; cmp.Compare: what they answer, at every input. -/
import Derived.Test.YtgnhainfcfcodaaGreatUni
namespace Go.Proofs.YtgnhainfcfcodaaGreat
open Go.RowKit Go.Shelf Go.Lib

theorem Holds4.carry {w w' : World} {b : Nat} {c : Nat → Nat} (h : Holds4 w b c) (hb : Below w.heap.size w w') : Holds4 w' b c := h.keep hb (Array.getElem?_eq_some_iff.1 h).1
theorem bcarry {w0 w w' : World} {B : Nat} (h : Below B w0 w) (hB : B ≤ w0.heap.size) (hb : Below w.heap.size w w') : Below B w0 w' := h.trans (hb.mono (Nat.le_trans hB h.size))
theorem eqStep (A B j : Nat) (hj : j < 4) (is : List Nat) (w : World) : (Op.eqItems 9999 55 1 (cells4 (wd A)) (cells4 (wd B)) (j :: is)).run Tryz.prog w = if wd A j = wd B j then (Op.eqItems 9999 55 1 (cells4 (wd A)) (cells4 (wd B)) is).run Tryz.prog w else .ok false w := by
  have he : Tryz.prog.plainKey 55 = true := by kernel_rfl
  have p1 := run_part_plain (P := Tryz.prog) w he (off := j * 1) (by rw [Nat.mul_one]; exact cells4_get (wd A) j hj)
  have p2 := run_part_plain (P := Tryz.prog) w he (off := j * 1) (by rw [Nat.mul_one]; exact cells4_get (wd B) j hj)
  have p3 := run_equalIn_int (P := Tryz.prog) w 9998 55 .u32 .u32 (wd A j : Int) (wd B j : Int) Tryz.underlying55
  rw [Op.eqItems]
  simp only [Sem.run_bind, p1, p2, Result.andThen_ok]
  rw [p3]
  simp only [Result.andThen_ok]
  by_cases h : wd A j = wd B j
  · simp [h]
  · have h2 : ((wd A j : Int) == (wd B j : Int)) = false := by simp; omega
    simp [h, h2]
theorem eqn4 (A B : Nat) (hA : A < S128) (hB : B < S128) (w : World) : (Op.equalIn 10000 57 (sv A) (sv B)).run Tryz.prog w = .ok (decide (A = B)) w := by
  have hi : (Tryz.prog.info? 55).isSome = true := by kernel_rfl
  obtain ⟨i, hi⟩ := Option.isSome_iff_exists.1 hi
  have hc : Tryz.prog.cellsOf 55 = 1 := by kernel_rfl
  rw [sv_cells, sv_cells, run_equalIn_array w 9999 _ _ Tryz.underlying57 hi, hc, show List.range 4 = [0, 1, 2, 3] from rfl]
  rw [eqStep A B 0 (by decide), eqStep A B 1 (by decide), eqStep A B 2 (by decide), eqStep A B 3 (by decide)]
  by_cases e : A = B
  · subst e; simp [Op.eqItems]
  · have hn : ¬ (wd A 0 = wd B 0 ∧ wd A 1 = wd B 1 ∧ wd A 2 = wd B 2 ∧ wd A 3 = wd B 3) := fun h => e (ext_wd hA hB h.1 h.2.1 h.2.2.1 h.2.2.2)
    simp only [e, decide_false]
    by_cases h0 : wd A 0 = wd B 0
    · by_cases h1 : wd A 1 = wd B 1
      · by_cases h2 : wd A 2 = wd B 2
        · by_cases h3 : wd A 3 = wd B 3
          · exact absurd ⟨h0, h1, h2, h3⟩ hn
          · simp [h0, h1, h2, h3]
        · simp [h0, h1, h2]
      · simp [h0, h1]
    · simp [h0]
theorem eql4 (x y : Operand) (A B : Nat) (hA : A < S128) (hB : B < S128) (w : World) : binRun Tryz.prog .eql 57 x y (sv A) (sv B) w = .ok (.bool (decide (A = B))) w := by
  have h := eqn4 A B hA hB w
  unfold sv at h
  unfold binRun sv
  go_simp
theorem neq4 (x y : Operand) (A B : Nat) (hA : A < S128) (hB : B < S128) (w : World) : binRun Tryz.prog .neq 57 x y (sv A) (sv B) w = .ok (.bool (!decide (A = B))) w := by
  have h := eqn4 A B hA hB w
  unfold sv at h
  unfold binRun sv
  go_simp
def sumW (M : Nat) : Nat → Nat
  | 0 => 0
  | k + 1 => sumW M k + popAux 32 (wd M k)
theorem sumW_4 (M : Nat) : sumW M 4 = cnt M := by simp [sumW, cnt_words]
theorem sumW_le (M : Nat) : ∀ k, sumW M k ≤ 32 * k
  | 0 => Nat.le_refl _
  | k + 1 => by have := sumW_le M k; have := popAux_le 32 (wd M k); simp only [sumW]; omega
theorem idxv4 (M k : Nat) (hk : k < 4) (w : World) : (Instr.index 57 (sv M) (.int .i64 (k : Int))).run Tryz.prog w = .ok (.int .u32 (wd M k : Nat)) w := by
  have h1 : (k : Int) < 4 := by omega
  have h2 : 0 ≤ (k : Int) := by omega
  have he : Tryz.prog.plainKey 55 = true := by kernel_rfl
  have hi : (Tryz.prog.info? 55).isSome = true := by kernel_rfl
  obtain ⟨i, hi⟩ := Option.isSome_iff_exists.1 hi
  have hc : Tryz.prog.cellsOf 55 = 1 := by kernel_rfl
  have p1 := run_part_plain (P := Tryz.prog) w he (off := k * 1) (by rw [Nat.mul_one]; exact cells4_get (wd M) k hk)
  rw [sv_cells]
  simp only [Instr.index, asIntOf, Sem.run_bind, Sem.run_pure, Result.andThen_ok, run_underlying Tryz.underlying57]
  have h3 : (0 : Int) ≤ (k : Int) ∧ (k : Int) < ((4 : Nat) : Int) := ⟨h2, by omega⟩
  rw [if_pos h3]
  simp only [Sem.run_bind, run_sizeOf w hi, Result.andThen_ok, hc, Int.toNat_natCast]
  exact p1
set_option maxHeartbeats 1000000 in
set_option maxRecDepth 100000 in
theorem count_any (N : Nat) (w : World) : Calls Tryz.prog 107 #[sv N] w fun e w' => e = .returned (.int .i64 ((cnt (cln N) : Nat) : Int)) ∧ Below w.heap.size w w' := by
  have hc := clean_any N
  have hix := idxv4 (cln N)
  generalize cln N = M at *
  simp only [sv] at hc hix ⊢
  go_enter Tryz.func107, Tryz.ntmps107
  go_wp2_with (go_at_call 111; refine (hc _).mono ?_; rintro e w1 ⟨rfl, hb⟩; have hb2 : Below w.heap.size w w1 := ((Below.refl _ w).alloc (by simp) _).trans (hb.mono (by simp)))
  clear hc hb
  go_loopw [8, 3] (fun c s wz => ∃ k : Nat, c = .int .i64 k ∧ k ≤ 4 ∧ s = .int .i64 ((sumW M k : Nat) : Int) ∧ Below w.heap.size w wz) (fun c _ _ => 4 - vnat c)
  case atStart => exact ⟨0, rfl, by omega, rfl, hb2⟩
  case round =>
    obtain ⟨k, rfl, hk, rfl, hb⟩ := hrel
    by_cases hk4 : k < 4
    · have hki : (k : Int) < 4 := by omega
      have h2 := hix k hk4
      have h3 := ones_any (wd M k) (wd_lt M k)
      have h4 := sumW_le M k
      have h5 := popAux_le 32 (wd M k)
      clear hix
      go_wp2_with (go_at_call 112; refine (h3 _).mono ?_; rintro e w1 ⟨rfl, rfl⟩)
      go_roundw
      case rel => exact ⟨k + 1, by simp, by omega, by simp only [sumW]; congr 1, hb.drew⟩
      case measure => simp only [vnat]; omega
    · have hk5 : k = 4 := by omega
      subst hk5
      go_wp2
      go_ret
      exact ⟨ret_int (by rw [sumW_4]), hb⟩
end Go.Proofs.YtgnhainfcfcodaaGreat
