/- Both Reads say one thing: arithmetic on texts, no program. -/
import Derived.Test.YtebpngapkkdifaaDoorNrf
namespace Go.Proofs.YtebpngapkkdifaaDoor
open Go.RowKit Go.Shelf Go.Lib

/-- What the document's Read answers. -/
def rdD (l : List Int) (s : ByteArray) : Int × Int × Int × Int :=
  if 65536 < s.size then (0, 0, 0, 2)
  else if s.size = 0 ∨ looseB s 0 = true ∨ ¬ (rn s 0 : Int) ∈ l ∨ s.size ≤ wdt s 0 + 1 ∨ (byt s (wdt s 0) ≠ 63 ∧ byt s (wdt s 0) ≠ 33) then (0, 0, 0, 80)
  else match numR (s.extract (wdt s 0 + 1) s.size) with
    | none => (0, 0, 0, 80)
    | some v => if 1048576 < v then (0, 0, 0, 80) else ((l.idxOf (rn s 0 : Int) : Int), (v : Int), (if byt s (wdt s 0) = 63 then 2 else 1), 0)
theorem cls_repl : cls 65533 ≠ 4 := by decide
theorem dec_empty {s : ByteArray} (h : s.size = 0) : decodeGo s = (65533, 0) := if_pos h
theorem dec_full {s : ByteArray} (h : s.size ≠ 0) : decodeGo s = (rn s 0, wdt s 0) := if_neg h
theorem numR_empty {s : ByteArray} (h : s.size = 0) : numR s = none := if_pos (.inl h)
theorem cut_cut (s : ByteArray) (n : Nat) (h : n + 1 ≤ s.size) : (s.extract n s.size).extract 1 (s.extract n s.size).size = s.extract (n + 1) s.size := by
  apply ByteArray.ext
  simp only [ByteArray.data_extract, ByteArray.size_extract, Array.extract_extract]
  congr 1
  have : s.size = s.data.size := rfl
  omega
set_option maxHeartbeats 1000000 in
theorem rd_eq {l : List Int} (hS : Signs l) (s : ByteArray) : rdP l s = rdD l s := by
  unfold rdP rdD
  by_cases hg : 65536 < s.size
  · rw [if_pos hg, if_pos hg]
  rw [if_neg hg, if_neg hg]
  by_cases hz : s.size = 0
  · rw [dec_empty hz, if_neg (show ¬ ((65533 : Nat) : Int) ∈ l from fun h => cls_repl (hS.letter _ h)), if_pos (.inl hz)]
  rw [dec_full hz]
  dsimp only
  by_cases hm : (rn s 0 : Int) ∈ l
  case neg => rw [if_neg hm, if_pos (.inr (.inr (.inl hm)))]
  rw [if_pos hm]
  have hlo : looseB s 0 = false := by
    cases h : looseB s 0 with
    | false => rfl
    | true =>
      have := (of_decide_eq_true h).1
      rw [this] at hm
      exact absurd (hS.letter _ hm) cls_repl
  have hn1 := wdt_pos s 0
  have hnl := wdt_le s 0 (by omega)
  have hR : cutR s = s.extract (wdt s 0) s.size := by unfold cutR; rw [dec_full hz]
  have hRs : (cutR s).size = s.size - wdt s 0 := by rw [hR]; simp
  by_cases hn : s.size ≤ wdt s 0 + 1
  · rw [if_pos (.inr (.inr (.inr (.inl hn))))]
    have hD : (cutR (cutR s)).size = 0 := by
      by_cases h0 : (cutR s).size = 0
      · have : (cutR (cutR s)).size ≤ (cutR s).size := by rw [cutR]; simp
        omega
      · have h1 := wdt_pos (cutR s) 0
        rw [cutR, dec_full h0]
        simp
        omega
    rw [numR_empty hD]
  have h0 : (cutR s).size ≠ 0 := by omega
  have hb0 : byt (cutR s) 0 = byt s (wdt s 0) := by
    rw [hR, byt_extract s _ 0 (by omega)]
    rfl
  rw [dec_full h0]
  dsimp only
  by_cases hbb : byt s (wdt s 0) ≠ 63 ∧ byt s (wdt s 0) ≠ 33
  · rw [if_pos (.inr (.inr (.inr (.inr hbb))))]
    have hk : kd (rn (cutR s) 0 : Int) = 0 := by
      by_cases h8 : byt (cutR s) 0 < 128
      · have := (one_byte (cutR s) 0 (by omega) h8).1
        rw [this, hb0, kd, if_neg (by omega), if_neg (by omega)]
      · have := more_byte (cutR s) 0 (by omega) (by omega)
        rw [kd, if_neg (by omega), if_neg (by omega)]
    rw [hk]
    generalize cutR (cutR s) = D
    cases numR D with
    | none => rfl
    | some v => exact if_pos (rk_n (by decide) (by decide))
  have h8 : byt (cutR s) 0 < 128 := by rw [hb0]; omega
  obtain ⟨o1, o2⟩ := one_byte (cutR s) 0 (by omega) h8
  have hnc : ¬ (s.size = 0 ∨ looseB s 0 = true ∨ ¬ (rn s 0 : Int) ∈ l ∨ s.size ≤ wdt s 0 + 1 ∨ (byt s (wdt s 0) ≠ 63 ∧ byt s (wdt s 0) ≠ 33)) := by
    rintro (h | h | h | h | h)
    · exact hz h
    · rw [hlo] at h; cases h
    · exact h hm
    · exact hn h
    · exact hbb h
  rw [if_neg hnc]
  have hD : cutR (cutR s) = s.extract (wdt s 0 + 1) s.size := by
    rw [cutR, dec_full h0, o2, hR]
    exact cut_cut s _ (by omega)
  rw [o1, hb0, hD]
  cases numR (s.extract (wdt s 0 + 1) s.size) with
  | none => rfl
  | some v =>
    dsimp only
    by_cases hx : 1048576 < v
    · rw [if_pos hx, if_pos (rk_lo (.inr (by omega)))]
    · rw [if_neg hx]
      by_cases hq : byt s (wdt s 0) = 63
      · rw [hq, if_pos rfl]
        have : rk (v : Int) (kd ((63 : Nat) : Int)) = 2 * v + 1 := rk_s (by omega)
        rw [this, if_neg (by omega)]
        rfl
      · have hq2 : byt s (wdt s 0) = 33 := by omega
        rw [hq2]
        have : rk (v : Int) (kd ((33 : Nat) : Int)) = 2 * v := rk_m (by omega)
        rw [this, if_neg (by omega)]
        rfl
end Go.Proofs.YtebpngapkkdifaaDoor
