/- Decode of a note's bytes is the note; bytes that are decoded are a note's: mathematics alone. -/
import Derived.Test.YtligjdmbjkppkaaWro
namespace Go.Proofs.Ytligjdmbjkppkaa

theorem flt_mk {kd : Nat} {n fr rd : Int} {N : Nat} {l : List (Int × Int × Int)} (h1 : 1 ≤ n ∧ n ≤ 100) (h2 : 0 ≤ fr ∧ fr < n) (h3 : kd = 3 ∨ (1 ≤ rd ∧ rd ≤ 1099511627775)) (h4 : wthB N n = true) (h5 : ris n (-1) l = true) : flt kd n fr rd N l = 0 := by
  unfold flt
  rw [if_neg (fun q => q h1), if_neg (by omega), if_neg (by omega), if_neg (by rw [h4]; decide), if_neg (by rw [h5]; decide)]
theorem wth0 (n : Int) : wthB 0 n = true := by simp [wthB]
theorem magic : numB 25971 2 = [101, 115] := by decide
theorem rd4_inv {n : Nat} {b : List Nat} (hb : Byt b) {kd fr rd N i : Nat} {f : FN} {j : Nat} (h : rd4 n b kd fr rd N i = .ok (f, j)) : ∃ l, f = (kd, fr, rd, N, l) ∧ l.length < 256 ∧ ris n (-1) l = true ∧ j ≤ b.length ∧ b.drop i = l.length % 256 :: newsB l ++ b.drop j := by
  unfold rd4 at h
  split at h
  · cases h
  · rename_i l j' hW
    cases h
    obtain ⟨g1, g2, g3, g4, g5, g6⟩ := rdW_inv hb hW
    exact ⟨l, rfl, g2, g3, g5, by rw [Nat.mod_eq_of_lt g2]; exact g6⟩
theorem rdF_inv {n : Nat} {b : List Nat} (hb : Byt b) (hn1 : 1 ≤ n) (hn : n ≤ 100) {f : FN} {j : Nat} (h : rdF n b = .ok (f, j)) : ∃ kd fr rd N l, f = (kd, fr, rd, N, l) ∧ (1 ≤ kd ∧ kd ≤ 3) ∧ flt kd n fr rd N l = 0 ∧ (kd = 3 → rd = 0) ∧ (kd ≠ 2 → N = 0) ∧ N < S128 ∧ j ≤ b.length ∧ b = frm kd n fr rd N l ++ b.drop j := by
  unfold rdF at h
  split at h
  · cases h
  rename_i h1
  split at h
  · cases h
  rename_i hM
  split at h
  · cases h
  rename_i h2
  split at h
  · cases h
  rename_i hk
  split at h
  · cases h
  rename_i h3
  split at h
  · cases h
  rename_i hs
  split at h
  · cases h
  rename_i h4
  split at h
  · cases h
  rename_i hg
  have hM' : nm b 0 2 = 25971 := Classical.not_not.1 hM
  have hk' : 1 ≤ nm b 2 1 ∧ nm b 2 1 ≤ 3 := Classical.not_not.1 hk
  have hs' : nm b 3 1 = n := Classical.not_not.1 hs
  have hfr : nm b 4 1 < n := by omega
  have e0 := drop_num hb (show 0 + 2 ≤ b.length by omega)
  have e2 := drop_one hb (show 2 + 1 ≤ b.length by omega)
  have e3 := drop_one hb (show 3 + 1 ≤ b.length by omega)
  have e4 := drop_one hb (show 4 + 1 ≤ b.length by omega)
  rw [List.drop_zero, hM', magic, Nat.zero_add, e2, e3, e4, hs'] at e0
  generalize nm b 2 1 = kd at *
  generalize nm b 4 1 = fr at *
  have hq : ∀ (x : List Nat), b.drop 5 = x → b = [101, 115, kd % 256, n % 256, fr % 256] ++ x := by
    intro x hx
    rw [Nat.mod_eq_of_lt (show kd < 256 by omega), Nat.mod_eq_of_lt (show n < 256 by omega), Nat.mod_eq_of_lt (show fr < 256 by omega), ← hx]
    simpa using e0
  unfold rd2 at h
  split at h
  · rename_i hk3
    unfold rd3 at h
    rw [if_neg (by omega)] at h
    obtain ⟨l, rfl, g1, g2, g3, g4⟩ := rd4_inv hb h
    refine ⟨_, _, _, _, l, rfl, hk', flt_mk (by omega) (by omega) (.inl hk3) (wth0 _) g2, fun _ => rfl, fun _ => rfl, by decide, g3, ?_⟩
    have := hq _ g4
    rw [frm, rndB, if_pos hk3, setB, if_neg (by omega)]
    simpa using this
  rename_i hk3
  split at h
  · cases h
  rename_i h5
  split at h
  · cases h
  rename_i hr
  have hr' : 1 ≤ nm b 5 5 ∧ nm b 5 5 ≤ 1099511627775 := Classical.not_not.1 hr
  have e5 := drop_num hb (show 5 + 5 ≤ b.length by omega)
  generalize nm b 5 5 = rd at *
  unfold rd3 at h
  split at h
  · rename_i hk2
    split at h
    · cases h
    rename_i h6
    split at h
    · cases h
    rename_i hw
    have e6 := drop_set hb (show 10 + hsz n ≤ b.length by omega)
    have hMl := vlS_lt _ ((hb.drop 10).take (hsz n))
    rw [sub_len' (show 10 + hsz n ≤ b.length by omega)] at hMl
    generalize vlS ((b.drop 10).take (hsz n)) = M at *
    obtain ⟨l, rfl, g1, g2, g3, g4⟩ := rd4_inv hb h
    refine ⟨_, _, _, _, l, rfl, hk', flt_mk (by omega) (by omega) (.inr (by omega)) (by simpa using hw) g2, fun e => absurd e hk3, fun e => absurd hk2 e, ?_, g3, ?_⟩
    · exact Nat.lt_of_lt_of_le hMl (Nat.le_trans (Nat.pow_le_pow_right (n := 2) (by decide) (show 8 * hsz n ≤ 128 by have := hsz_le hn; omega)) (by decide))
    · rw [e6, g4] at e5
      have := hq _ e5
      rw [frm, rndB, if_neg hk3, setB, if_pos hk2]
      simpa using this
  · rename_i hk2
    obtain ⟨l, rfl, g1, g2, g3, g4⟩ := rd4_inv hb h
    refine ⟨_, _, _, _, l, rfl, hk', flt_mk (by omega) (by omega) (.inr (by omega)) (wth0 _) g2, fun e => absurd e hk3, fun _ => rfl, by decide, g3, ?_⟩
    rw [show 5 + 5 = 10 from rfl, g4] at e5
    have := hq _ e5
    rw [frm, rndB, if_neg hk3, setB, if_neg hk2]
    simpa using this
theorem dec_size {n : Int} {b : List Nat} {f : FN} (h : dec n b = .ok f) : (1 ≤ n ∧ n ≤ 100) ∧ b.length ≤ 1024 ∧ rdE n.toNat b = .ok f := by
  unfold dec at h
  split at h
  · cases h
  rename_i h1
  split at h
  · cases h
  rename_i h2
  exact ⟨Classical.not_not.1 h1, by omega, h⟩
/-- Bytes that are decoded are those of the note that they say. -/
theorem dec_inv {n : Int} {b : List Nat} (hb : Byt b) {f : FN} (h : dec n b = .ok f) : ∃ kd fr rd N l, f = (kd, fr, rd, N, l) ∧ (1 ≤ kd ∧ kd ≤ 3) ∧ flt kd n fr rd N l = 0 ∧ (kd = 3 → rd = 0) ∧ (kd ≠ 2 → N = 0) ∧ N < S128 ∧ b = byt7 kd n.toNat fr rd N l := by
  obtain ⟨h1, h2, hE⟩ := dec_size h
  obtain ⟨m, rfl⟩ := Int.eq_ofNat_of_zero_le (show 0 ≤ n by omega)
  rw [Int.toNat_natCast] at hE ⊢
  unfold rdE at hE
  split at hE
  · cases hE
  rename_i f' j hF
  split at hE
  · cases hE
  rename_i g1
  split at hE
  · cases hE
  rename_i g2
  split at hE
  · cases hE
  rename_i g3
  cases hE
  obtain ⟨kd, fr, rd, N, l, rfl, a1, a2, a3, a4, a5, a6, a7⟩ := rdF_inv hb (by omega) (by omega) hF
  refine ⟨kd, fr, rd, N, l, rfl, a1, a2, a3, a4, a5, ?_⟩
  have e := drop_num hb (show j + 4 ≤ b.length by omega)
  rw [show nm b j 4 = sumV (b.take j) from Classical.not_not.1 g2, show b.drop (j + 4) = [] from List.drop_eq_nil_of_le (by omega), List.append_nil] at e
  have hl : (frm kd m fr rd N l).length = j := by
    have := congrArg List.length a7
    rw [List.length_append, List.length_drop] at this
    omega
  have ht : b.take j = frm kd m fr rd N l := by rw [a7, List.take_left' hl]
  rw [byt7, ← ht, ← e, List.take_append_drop]
end Go.Proofs.Ytligjdmbjkppkaa
