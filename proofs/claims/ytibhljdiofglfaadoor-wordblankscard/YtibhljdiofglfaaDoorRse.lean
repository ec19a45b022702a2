/- Runs of letters and digits: those of a line, and those of the text. -/
import Derived.Test.YtibhljdiofglfaaDoorRsd
namespace Go.Proofs.YtibhljdiofglfaaDoor
open Go.RowKit Go.Shelf

theorem dec_asc (s : ByteArray) (p : Nat) (hp : p < s.size) (h : byt s p < 128) : Utf8.decode s p = (byt s p, 1) := by
  rw [shape, get_byt s p hp, Lib.decodeN, if_pos h]
theorem rn_asc (s : ByteArray) (p : Nat) (hp : p < s.size) (h : byt s p < 128) : rn s p = byt s p ∧ wd s p = 1 := by
  unfold rn wd
  rw [dec_asc s p hp h]
  exact ⟨rfl, rfl⟩
theorem ext_ext (s : ByteArray) (b m p q : Nat) (hq : q ≤ m) : (s.extract b (b + m)).extract p q = s.extract (b + p) (b + q) := by
  rw [ByteArray.extract_extract]
  congr 1
  omega
theorem loose_cls (s : ByteArray) (p : Nat) (h : cls (rn s p : Int) = 3 ∨ cls (rn s p : Int) = 4) : looseB s p = false := by
  unfold looseB
  rw [decide_eq_false_iff_not]
  rintro ⟨e, _⟩
  rw [e] at h
  revert h
  decide
theorem run_eq (s : ByteArray) (b m : Nat) (h : b + m ≤ s.size) (hend : b + m = s.size ∨ byt s (b + m) = 10) : ∀ (f F q n c : Nat), q ≤ m → m < q + f → s.size ≤ b + q + F → ChAt (s.extract b (b + m)) q c → runD s F (b + q) = b + (runAt (s.extract b (b + m)) f q n).1 ∧ n ≤ (runAt (s.extract b (b + m)) f q n).2 ∧ ChAt (s.extract b (b + m)) (runAt (s.extract b (b + m)) f q n).1 (c + ((runAt (s.extract b (b + m)) f q n).2 - n))
  | 0, F, q, n, c, hq, hf, _, _ => by omega
  | f + 1, F, q, n, c, hq, hf, hF, hc => by
    have hsz : (s.extract b (b + m)).size = m := by simp; omega
    have hend' : b + m = s.size ∨ byt s (b + m) < 128 := by omega
    by_cases hqm : q < m
    · have hd := dec_line s b m q h hqm hend'
      have hr : rn (s.extract b (b + m)) q = rn s (b + q) := by unfold rn; rw [hd]
      have hw : wd (s.extract b (b + m)) q = wd s (b + q) := by unfold wd; rw [hd]
      have hwp := wd_pos s (b + q)
      have hwl := wd_le (s.extract b (b + m)) q (by omega)
      rw [runAt, if_neg (by omega)]
      by_cases hk : cls (rn s (b + q) : Int) = 3 ∨ cls (rn s (b + q) : Int) = 4
      · rw [if_pos (by rw [hr]; exact hk.symm)]
        obtain ⟨G, rfl⟩ : ∃ G, F = G + 1 := ⟨F - 1, by omega⟩
        rw [runD_on s G (b + q) (by omega) (loose_cls s _ hk) hk]
        have ih := run_eq s b m h hend f G (q + wd (s.extract b (b + m)) q) (n + 1) (c + 1) (by omega) (by omega) (by omega) (hc.step (by omega))
        rw [hw] at ih ⊢
        rw [← Nat.add_assoc] at ih
        refine ⟨ih.1, by omega, ?_⟩
        have e : c + 1 + ((runAt (s.extract b (b + m)) f (q + wd s (b + q)) (n + 1)).2 - (n + 1)) = c + ((runAt (s.extract b (b + m)) f (q + wd s (b + q)) (n + 1)).2 - n) := by omega
        rw [← e]
        exact ih.2.2
      · rw [if_neg (by rw [hr]; exact fun e => hk e.symm)]
        refine ⟨runD_end s F _ (fun e => hk e.2.2), Nat.le_refl _, ?_⟩
        simpa using hc
    · obtain rfl : q = m := by omega
      rw [runAt, if_pos (by omega), hsz]
      refine ⟨runD_end s F _ (fun e => ?_), Nat.le_refl _, by simpa using hc⟩
      rcases hend with q1 | q1
      · omega
      · have := (rn_asc s (b + q) e.1 (by omega)).1
        rw [this, q1] at e
        revert e
        rintro ⟨_, _, e | e⟩ <;> simp [cls] at e
/-- A run of the rest of a line: its end, and its characters. -/
theorem runR_eq (s : ByteArray) (b m : Nat) (h : b + m ≤ s.size) (hend : b + m = s.size ∨ byt s (b + m) = 10) : runD s s.size b = b + (runR (s.extract b (b + m))).1 ∧ (runR (s.extract b (b + m))).2 = cnt s b (b + (runR (s.extract b (b + m))).1) := by
  have hsz : (s.extract b (b + m)).size = m := by simp; omega
  have hh := run_eq s b m h hend (m + 1) s.size 0 0 0 (Nat.zero_le _) (by omega) (by omega) .zero
  unfold runR
  rw [hsz]
  refine ⟨hh.1, ?_⟩
  have h3 := hh.2.2
  have hle := chAt_le h3
  have h4 := chAt_cnt h3
  unfold cnt at h4 ⊢
  rw [ext_ext s b m 0 _ (by omega), Nat.add_zero] at h4
  rw [h4]
  omega
end Go.Proofs.YtibhljdiofglfaaDoor
