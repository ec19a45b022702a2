/- What Decode tells, and of what bytes: mathematics alone. -/
import Derived.Test.YtnomeinppdnhfaaGreatWri
import Derived.Test.YtnomeinppdnhfaaGreatWre
namespace Go.Proofs.YtnomeinppdnhfaaGreat

theorem rdK_err {n : Nat} {b : List Nat} : ∀ (c : Nat) (a : Int) (i : Nat) (e : Int), rdK n b c a i = .error e → e = 75 ∨ e = 76
  | 0, a, i, e, h => by cases h
  | c + 1, a, i, e, h => by
    rw [rdK] at h
    split at h
    · cases h; exact .inr rfl
    split at h
    · cases h; exact .inl rfl
    split at h
    · rename_i e' he
      cases h
      exact rdK_err c _ _ _ he
    · cases h
theorem rdW_err {n : Nat} {b : List Nat} {i : Nat} {e : Int} (h : rdW n b i = .error e) : e = 75 ∨ e = 76 := by
  unfold rdW at h
  split at h
  · cases h; exact .inr rfl
  split at h
  · cases h; exact .inl rfl
  exact rdK_err _ _ _ _ h
theorem rd4_err {n : Nat} {b : List Nat} {kd fr rd N i : Nat} {e : Int} (h : rd4 n b kd fr rd N i = .error e) : e = 75 ∨ e = 76 := by
  unfold rd4 at h
  split at h
  · rename_i e' he
    cases h
    exact rdW_err he
  · cases h
theorem rd3_err {n : Nat} {b : List Nat} {kd fr rd i : Nat} {e : Int} (h : rd3 n b kd fr rd i = .error e) : e = 74 ∨ e = 75 ∨ e = 76 := by
  unfold rd3 at h
  split at h
  · split at h
    · cases h; exact .inr (.inr rfl)
    split at h
    · cases h; exact .inl rfl
    · exact .inr (rd4_err h)
  · exact .inr (rd4_err h)
theorem rd2_err {n : Nat} {b : List Nat} {kd fr : Nat} {e : Int} (h : rd2 n b kd fr = .error e) : 73 ≤ e ∧ e ≤ 76 := by
  unfold rd2 at h
  split at h
  · have := rd3_err h; omega
  split at h
  · cases h; omega
  split at h
  · cases h; omega
  · have := rd3_err h; omega
theorem rdF_err {n : Nat} {b : List Nat} {e : Int} (h : rdF n b = .error e) : 70 ≤ e := by
  unfold rdF at h
  split at h
  · cases h; omega
  split at h
  · cases h; omega
  split at h
  · cases h; omega
  split at h
  · cases h; omega
  split at h
  · cases h; omega
  split at h
  · cases h; omega
  split at h
  · cases h; omega
  split at h
  · cases h; omega
  · have := rd2_err h; omega
/-- An error is one. -/
theorem dec_err {n : Int} {b : List Nat} {e : Int} (h : dec n b = .error e) : e ≠ 0 := by
  unfold dec at h
  split at h
  · cases h; omega
  split at h
  · cases h; omega
  unfold rdE at h
  split at h
  · rename_i e' he
    cases h
    have := rdF_err he
    omega
  split at h
  · cases h; omega
  split at h
  · cases h; omega
  split at h
  · cases h; omega
  · cases h

/-- What is read of so many bytes is these bytes. -/
theorem drop_sub (b : List Nat) (i m : Nat) : b.drop i = (b.drop i).take m ++ b.drop (i + m) := by
  rw [← List.drop_drop, List.take_append_drop]
theorem sub_len' {b : List Nat} {i m : Nat} (h : i + m ≤ b.length) : ((b.drop i).take m).length = m := by rw [List.length_take, List.length_drop]; omega
theorem drop_num {b : List Nat} (hb : Byt b) {i m : Nat} (h : i + m ≤ b.length) : b.drop i = numB (nm b i m) m ++ b.drop (i + m) := by
  have h1 := num_val ((b.drop i).take m) ((hb.drop i).take m)
  rw [sub_len' h] at h1
  rw [nm, h1]
  exact drop_sub b i m
theorem drop_set {b : List Nat} (hb : Byt b) {i m : Nat} (h : i + m ≤ b.length) : b.drop i = stB (vlS ((b.drop i).take m)) 0 m ++ b.drop (i + m) := by
  have h1 := st_vl ((b.drop i).take m) ((hb.drop i).take m)
  rw [sub_len' h] at h1
  rw [h1]
  exact drop_sub b i m
theorem num1 (v : Nat) (h : v < 256) : numB v 1 = [v] := by simp [numB, Nat.mod_eq_of_lt h]
theorem nm1_lt {b : List Nat} (hb : Byt b) {i : Nat} (h : i + 1 ≤ b.length) : nm b i 1 < 256 := by
  have := valB_lt _ ((hb.drop i).take 1)
  rw [sub_len' h] at this
  exact this
theorem drop_one {b : List Nat} (hb : Byt b) {i : Nat} (h : i + 1 ≤ b.length) : b.drop i = nm b i 1 :: b.drop (i + 1) := by
  have := drop_num hb h
  rwa [num1 _ (nm1_lt hb h)] at this
theorem getD_nm {b : List Nat} {i : Nat} (h : i + 1 ≤ b.length) : b.getD i 0 = nm b i 1 := by
  have e : (b.drop i).take 1 = [b.getD i 0] := by
    rw [List.getD_eq_getElem?_getD, List.getElem?_eq_getElem (by omega : i < b.length), List.drop_eq_getElem_cons (by omega : i < b.length)]
    rfl
  rw [nm, e]
  simp [valB]
theorem nm_of {b : List Nat} {i m v : Nat} {r : List Nat} (h : b.drop i = numB v m ++ r) (hv : v < 2 ^ (8 * m)) : nm b i m = v := by
  have e : (b.drop i).take m = numB v m := by rw [h]; exact List.take_left' (numB_len v m)
  rw [nm, e, val_num hv]
theorem drop_of {b : List Nat} {i : Nat} {l r : List Nat} (h : b.drop i = l ++ r) : b.drop (i + l.length) = r := by
  rw [← List.drop_drop, h, List.drop_left' rfl]
theorem len_of {b : List Nat} {i : Nat} {l r : List Nat} (h : b.drop i = l ++ r) (hl : l ≠ []) : i + l.length + r.length = b.length := by
  have := congrArg List.length h
  rw [List.length_drop, List.length_append] at this
  have : 0 < l.length := List.length_pos_iff.2 hl
  omega
/-- So many notices that are read are these bytes. -/
theorem rdK_inv {n : Nat} {b : List Nat} (hb : Byt b) : ∀ (c : Nat) (a : Int) (i : Nat) (l : List (Int × Int × Int)) (j : Nat), rdK n b c a i = .ok (l, j) → l.length = c ∧ ris n a l = true ∧ j = i + 5 * c ∧ (i ≤ b.length → j ≤ b.length) ∧ b.drop i = newsB l ++ b.drop j
  | 0, a, i, l, j, h => by
    rw [rdK] at h
    cases h
    exact ⟨rfl, rfl, by omega, id, rfl⟩
  | c + 1, a, i, l, j, h => by
    rw [rdK] at h
    split at h
    · cases h
    rename_i h5
    split at h
    · cases h
    rename_i hv
    split at h
    · cases h
    · rename_i l' j' he
      cases h
      obtain ⟨g1, g2, g3, g4, g5⟩ := rdK_inv hb c _ _ _ _ he
      have hv2 : (vl n (b.getD i 0 : Nat) (nm b (i + 2) 3 : Nat) (b.getD (i + 1) 0 : Nat) && decide (a < ((b.getD i 0 : Nat) : Int))) = true := by simpa using hv
      rw [Bool.and_eq_true] at hv2
      refine ⟨by simp [g1], ?_, by omega, fun _ => g4 (by omega), ?_⟩
      · simp only [ris, Bool.and_eq_true]
        exact ⟨hv2.1, hv2.2, g2⟩
      · have e0 := drop_one hb (show i + 1 ≤ b.length by omega)
        have e1 := drop_one hb (show i + 1 + 1 ≤ b.length by omega)
        have e2 := drop_num hb (show i + 1 + 1 + 3 ≤ b.length by omega)
        have l0 := nm1_lt hb (show i + 1 ≤ b.length by omega)
        have l1 := nm1_lt hb (show i + 1 + 1 ≤ b.length by omega)
        rw [e0, e1, e2, show i + 1 + 1 + 3 = i + 5 by omega, g5, getD_nm (show i + 1 ≤ b.length by omega), getD_nm (show i + 1 + 1 ≤ b.length by omega), newsB]
        simp only [Int.toNat_natCast, List.cons_append, List.append_assoc, Nat.mod_eq_of_lt l0, Nat.mod_eq_of_lt l1]
theorem rdW_inv {n : Nat} {b : List Nat} (hb : Byt b) {i : Nat} {l : List (Int × Int × Int)} {j : Nat} (h : rdW n b i = .ok (l, j)) : l.length ≤ n ∧ l.length < 256 ∧ ris n (-1) l = true ∧ j = i + 1 + 5 * l.length ∧ j ≤ b.length ∧ b.drop i = l.length :: (newsB l ++ b.drop j) := by
  unfold rdW at h
  split at h
  · cases h
  rename_i h1
  split at h
  · cases h
  rename_i h2
  obtain ⟨g1, g2, g3, g4, g5⟩ := rdK_inv hb _ _ _ _ _ h
  have l0 := nm1_lt hb (show i + 1 ≤ b.length by omega)
  have e0 := drop_one hb (show i + 1 ≤ b.length by omega)
  refine ⟨by omega, by omega, g2, by omega, g4 (by omega), ?_⟩
  rw [e0, g5, g1]
end Go.Proofs.YtnomeinppdnhfaaGreat
namespace Go.Proofs.YtnomeinppdnhfaaGreat

theorem flt_mk {kd : Nat} {n fr rd : Int} {N : Nat} {l : List (Int × Int × Int)} (h1 : 1 ≤ n ∧ n ≤ 100) (h2 : 0 ≤ fr ∧ fr < n) (h3 : kd = 3 ∨ (1 ≤ rd ∧ rd ≤ 1099511627775)) (h4 : wthB N n = true) (h5 : ris n (-1) l = true) : flt kd n fr rd N l = 0 := by
  unfold flt
  rw [if_neg (fun q => q h1), if_neg (by omega), if_neg (by omega), if_neg (by rw [h4]; decide), if_neg (by rw [h5]; decide)]
theorem wth0 (n : Int) : wthB 0 n = true := by simp [wthB]
theorem magic : numB 25971 2 = [101, 115] := by decide
theorem rd4_inv {n : Nat} {b : List Nat} (hb : Byt b) {kd fr rd N i : Nat} {f : FN} {j : Nat} (h : rd4 n b kd fr rd N i = .ok (f, j)) : ∃ l, f = (kd, fr, rd, N, l) ∧ l.length < 256 ∧ ris n (-1) l = true ∧ j ≤ b.length ∧ b.drop i = l.length % 256 :: newsB l ++ b.drop j := by
  unfold rd4 at h
  split at h
  · cases h
  · rename_i l j' hW
    cases h
    obtain ⟨g1, g2, g3, g4, g5, g6⟩ := rdW_inv hb hW
    exact ⟨l, rfl, g2, g3, g5, by rw [Nat.mod_eq_of_lt g2]; exact g6⟩
theorem rdF_inv {n : Nat} {b : List Nat} (hb : Byt b) (hn1 : 1 ≤ n) (hn : n ≤ 100) {f : FN} {j : Nat} (h : rdF n b = .ok (f, j)) : ∃ kd fr rd N l, f = (kd, fr, rd, N, l) ∧ (1 ≤ kd ∧ kd ≤ 3) ∧ flt kd n fr rd N l = 0 ∧ (kd = 3 → rd = 0) ∧ (kd ≠ 2 → N = 0) ∧ N < S128 ∧ j ≤ b.length ∧ b = frm kd n fr rd N l ++ b.drop j := by
  unfold rdF at h
  split at h
  · cases h
  rename_i h1
  split at h
  · cases h
  rename_i hM
  split at h
  · cases h
  rename_i h2
  split at h
  · cases h
  rename_i hk
  split at h
  · cases h
  rename_i h3
  split at h
  · cases h
  rename_i hs
  split at h
  · cases h
  rename_i h4
  split at h
  · cases h
  rename_i hg
  have hM' : nm b 0 2 = 25971 := Classical.not_not.1 hM
  have hk' : 1 ≤ nm b 2 1 ∧ nm b 2 1 ≤ 3 := Classical.not_not.1 hk
  have hs' : nm b 3 1 = n := Classical.not_not.1 hs
  have hfr : nm b 4 1 < n := by omega
  have e0 := drop_num hb (show 0 + 2 ≤ b.length by omega)
  have e2 := drop_one hb (show 2 + 1 ≤ b.length by omega)
  have e3 := drop_one hb (show 3 + 1 ≤ b.length by omega)
  have e4 := drop_one hb (show 4 + 1 ≤ b.length by omega)
  rw [List.drop_zero, hM', magic, Nat.zero_add, e2, e3, e4, hs'] at e0
  generalize nm b 2 1 = kd at *
  generalize nm b 4 1 = fr at *
  have hq : ∀ (x : List Nat), b.drop 5 = x → b = [101, 115, kd % 256, n % 256, fr % 256] ++ x := by
    intro x hx
    rw [Nat.mod_eq_of_lt (show kd < 256 by omega), Nat.mod_eq_of_lt (show n < 256 by omega), Nat.mod_eq_of_lt (show fr < 256 by omega), ← hx]
    simpa using e0
  unfold rd2 at h
  split at h
  · rename_i hk3
    unfold rd3 at h
    rw [if_neg (by omega)] at h
    obtain ⟨l, rfl, g1, g2, g3, g4⟩ := rd4_inv hb h
    refine ⟨_, _, _, _, l, rfl, hk', flt_mk (by omega) (by omega) (.inl hk3) (wth0 _) g2, fun _ => rfl, fun _ => rfl, by decide, g3, ?_⟩
    have := hq _ g4
    rw [frm, rndB, if_pos hk3, setB, if_neg (by omega)]
    simpa using this
  rename_i hk3
  split at h
  · cases h
  rename_i h5
  split at h
  · cases h
  rename_i hr
  have hr' : 1 ≤ nm b 5 5 ∧ nm b 5 5 ≤ 1099511627775 := Classical.not_not.1 hr
  have e5 := drop_num hb (show 5 + 5 ≤ b.length by omega)
  generalize nm b 5 5 = rd at *
  unfold rd3 at h
  split at h
  · rename_i hk2
    split at h
    · cases h
    rename_i h6
    split at h
    · cases h
    rename_i hw
    have e6 := drop_set hb (show 10 + hsz n ≤ b.length by omega)
    have hMl := vlS_lt _ ((hb.drop 10).take (hsz n))
    rw [sub_len' (show 10 + hsz n ≤ b.length by omega)] at hMl
    generalize vlS ((b.drop 10).take (hsz n)) = M at *
    obtain ⟨l, rfl, g1, g2, g3, g4⟩ := rd4_inv hb h
    refine ⟨_, _, _, _, l, rfl, hk', flt_mk (by omega) (by omega) (.inr (by omega)) (by simpa using hw) g2, fun e => absurd e hk3, fun e => absurd hk2 e, ?_, g3, ?_⟩
    · exact Nat.lt_of_lt_of_le hMl (Nat.le_trans (Nat.pow_le_pow_right (n := 2) (by decide) (show 8 * hsz n ≤ 128 by have := hsz_le hn; omega)) (by decide))
    · rw [e6, g4] at e5
      have := hq _ e5
      rw [frm, rndB, if_neg hk3, setB, if_pos hk2]
      simpa using this
  · rename_i hk2
    obtain ⟨l, rfl, g1, g2, g3, g4⟩ := rd4_inv hb h
    refine ⟨_, _, _, _, l, rfl, hk', flt_mk (by omega) (by omega) (.inr (by omega)) (wth0 _) g2, fun e => absurd e hk3, fun _ => rfl, by decide, g3, ?_⟩
    rw [show 5 + 5 = 10 from rfl, g4] at e5
    have := hq _ e5
    rw [frm, rndB, if_neg hk3, setB, if_neg hk2]
    simpa using this
theorem dec_size {n : Int} {b : List Nat} {f : FN} (h : dec n b = .ok f) : (1 ≤ n ∧ n ≤ 100) ∧ b.length ≤ 1024 ∧ rdE n.toNat b = .ok f := by
  unfold dec at h
  split at h
  · cases h
  rename_i h1
  split at h
  · cases h
  rename_i h2
  exact ⟨Classical.not_not.1 h1, by omega, h⟩
/-- Bytes that are decoded are those of the note that they say. -/
theorem dec_inv {n : Int} {b : List Nat} (hb : Byt b) {f : FN} (h : dec n b = .ok f) : ∃ kd fr rd N l, f = (kd, fr, rd, N, l) ∧ (1 ≤ kd ∧ kd ≤ 3) ∧ flt kd n fr rd N l = 0 ∧ (kd = 3 → rd = 0) ∧ (kd ≠ 2 → N = 0) ∧ N < S128 ∧ b = byt7 kd n.toNat fr rd N l := by
  obtain ⟨h1, h2, hE⟩ := dec_size h
  obtain ⟨m, rfl⟩ := Int.eq_ofNat_of_zero_le (show 0 ≤ n by omega)
  rw [Int.toNat_natCast] at hE ⊢
  unfold rdE at hE
  split at hE
  · cases hE
  rename_i f' j hF
  split at hE
  · cases hE
  rename_i g1
  split at hE
  · cases hE
  rename_i g2
  split at hE
  · cases hE
  rename_i g3
  cases hE
  obtain ⟨kd, fr, rd, N, l, rfl, a1, a2, a3, a4, a5, a6, a7⟩ := rdF_inv hb (by omega) (by omega) hF
  refine ⟨kd, fr, rd, N, l, rfl, a1, a2, a3, a4, a5, ?_⟩
  have e := drop_num hb (show j + 4 ≤ b.length by omega)
  rw [show nm b j 4 = sumV (b.take j) from Classical.not_not.1 g2, show b.drop (j + 4) = [] from List.drop_eq_nil_of_le (by omega), List.append_nil] at e
  have hl : (frm kd m fr rd N l).length = j := by
    have := congrArg List.length a7
    rw [List.length_append, List.length_drop] at this
    omega
  have ht : b.take j = frm kd m fr rd N l := by rw [a7, List.take_left' hl]
  rw [byt7, ← ht, ← e, List.take_append_drop]
end Go.Proofs.YtnomeinppdnhfaaGreat
namespace Go.Proofs.YtnomeinppdnhfaaGreat

theorem frm_split (kd n fr rd N : Nat) (l : List (Int × Int × Int)) : frm kd n fr rd N l = numB 25971 2 ++ ((kd % 256) :: (n % 256) :: (fr % 256) :: (rndB kd rd ++ (setB kd n N ++ (l.length % 256 :: newsB l)))) := by
  rw [magic]
  rfl
theorem cons_num (v : Nat) (r : List Nat) : v % 256 :: r = numB v 1 ++ r := by simp [numB]
theorem nm_cons {b : List Nat} {i v : Nat} {r : List Nat} (h : b.drop i = v % 256 :: r) (hv : v < 256) : nm b i 1 = v := nm_of (by rw [h, cons_num]) (by simpa using hv)
theorem drop_cons {b : List Nat} {i v : Nat} {r : List Nat} (h : b.drop i = v :: r) : b.drop (i + 1) = r := drop_of (l := [v]) (by rw [h]; rfl)
theorem len_cons {b : List Nat} {i v : Nat} {r : List Nat} (h : b.drop i = v :: r) : i + 1 + r.length = b.length := len_of (l := [v]) (by rw [h]; rfl) (by simp)
/-- These notices are read. -/
theorem rdK_of {n : Nat} {b : List Nat} (hn : n ≤ 100) : ∀ (l : List (Int × Int × Int)) (a : Int) (i : Nat) (r : List Nat), ris n a l = true → b.drop i = newsB l ++ r → rdK n b l.length a i = .ok (l, i + 5 * l.length)
  | [], a, i, r, _, _ => rfl
  | (o, t, k) :: l, a, i, r, h, hd => by
    simp only [ris, Bool.and_eq_true, decide_eq_true_eq] at h
    obtain ⟨hv, ha, hr⟩ := h
    obtain ⟨v1, v2, v3, v4, v5, v6⟩ := vl_bounds hv
    obtain ⟨o, rfl⟩ := Int.eq_ofNat_of_zero_le v1
    obtain ⟨t, rfl⟩ := Int.eq_ofNat_of_zero_le v3
    obtain ⟨k, rfl⟩ := Int.eq_ofNat_of_zero_le (show 0 ≤ k by omega)
    rw [newsB] at hd
    simp only [Int.toNat_natCast, List.cons_append, List.append_assoc] at hd
    have d1 := drop_cons hd
    have d2 := drop_cons d1
    have d5 := drop_of d2
    rw [numB_len] at d5
    have e0 := nm_cons hd (by omega)
    have e1 := nm_cons d1 (by omega)
    have e2 := nm_of d2 (show t < 2 ^ (8 * 3) by omega)
    have L0 := len_cons hd
    rw [List.length_cons, List.length_append, numB_len] at L0
    have g0 := getD_nm (b := b) (show i + 1 ≤ b.length by omega)
    have g1 := getD_nm (b := b) (show i + 1 + 1 ≤ b.length by omega)
    have ih := rdK_of hn l (o : Int) (i + 5) r hr d5
    rw [List.length_cons, rdK, if_neg (by omega), g0, g1, e0, e1, show i + 2 = i + 1 + 1 by omega, e2, if_neg (by rw [hv, decide_eq_true ha]; decide), ih]
    simp only [Except.ok.injEq, Prod.mk.injEq, true_and]
    omega
theorem rdW_of {n : Nat} {b : List Nat} (hn : n ≤ 100) {l : List (Int × Int × Int)} {i : Nat} {r : List Nat} (h : ris n (-1) l = true) (h1 : 1 ≤ n) (hd : b.drop i = l.length % 256 :: (newsB l ++ r)) : rdW n b i = .ok (l, i + 1 + 5 * l.length) := by
  have hl := ris_len n l (-1) (by omega) (by omega) h
  have L0 := len_cons hd
  have e0 := nm_cons hd (by omega)
  rw [rdW, if_neg (by omega), e0, if_neg (by omega)]
  exact rdK_of hn l (-1) (i + 1) r h (drop_cons hd)
theorem wth_mod {M n : Nat} (hn : n ≤ 100) (h : wthB M n = true) : M < 2 ^ n := by
  have h1 := of_decide_eq_true h
  have h2 : topW (n : Int) = n := by unfold topW; omega
  rw [h2] at h1
  rw [h1]
  exact Nat.mod_lt _ (Nat.two_pow_pos _)
/-- What is read of a form, whatever stands behind it. -/
theorem rdF_of {kd n fr rd N : Nat} {l : List (Int × Int × Int)} (hk : 1 ≤ kd ∧ kd ≤ 3) (hf : flt kd n fr rd N l = 0) (h3 : kd = 3 → rd = 0) (h2 : kd ≠ 2 → N = 0) (r : List Nat) : rdF n (frm kd n fr rd N l ++ r) = .ok ((kd, fr, rd, N, l), (frm kd n fr rd N l).length) := by
  obtain ⟨hn, hfr, hrd, hw, hri⟩ := flt_0 hf
  obtain ⟨b, hb⟩ : ∃ b, frm kd n fr rd N l ++ r = b := ⟨_, rfl⟩
  have hlen : b.length = (frm kd n fr rd N l).length + r.length := by rw [← hb, List.length_append]
  rw [hb]
  have d0 : b.drop 0 = numB 25971 2 ++ ((kd % 256) :: (n % 256) :: (fr % 256) :: (rndB kd rd ++ (setB kd n N ++ (l.length % 256 :: (newsB l ++ r))))) := by
    rw [← hb, frm_split]
    simp
  have d2 := drop_of d0
  rw [numB_len] at d2
  have d3 := drop_cons d2
  have d4 := drop_cons d3
  have d5 := drop_cons d4
  simp only [Nat.zero_add, Nat.reduceAdd] at d2 d3 d4 d5
  have L4 := len_cons d4
  have n0 := nm_of d0 (by decide)
  have n2 := nm_cons d2 (by omega)
  have n3 := nm_cons d3 (by omega)
  have n4 := nm_cons d4 (by omega)
  rw [rdF, if_neg (by omega), n0, if_neg (by simp), if_neg (by omega), n2, if_neg (fun q => q hk), if_neg (by omega), n3, if_neg (by simp), if_neg (by omega), n4, if_neg (by omega), rd2]
  have hfl : (frm kd n fr rd N l).length = 5 + ((rndB kd rd).length + ((setB kd n N).length + (1 + 5 * l.length))) := by
    unfold frm
    simp only [List.length_append, List.length_cons, List.length_nil, newsB_len]
    omega
  by_cases hk3 : kd = 3
  · obtain rfl := h3 hk3
    obtain rfl := h2 (by omega)
    rw [rndB, if_pos hk3, setB, if_neg (by omega), List.nil_append, List.nil_append] at d5
    rw [rndB, if_pos hk3, setB, if_neg (by omega)] at hfl
    rw [if_pos hk3, rd3, if_neg (by omega), rd4, rdW_of (by omega) hri (by omega) d5]
    simp only [List.length_nil] at hfl
    simp only [Except.ok.injEq, Prod.mk.injEq, true_and]
    omega
  rw [rndB, if_neg hk3] at d5
  rw [rndB, if_neg hk3, numB_len] at hfl
  have d10 := drop_of d5
  rw [numB_len] at d10
  simp only [Nat.reduceAdd] at d10
  have n5 := nm_of d5 (show rd < 2 ^ (8 * 5) by omega)
  rw [if_neg hk3, if_neg (by omega), n5, if_neg (by omega), rd3]
  by_cases hk2 : kd = 2
  · rw [setB, if_pos hk2] at d10
    rw [setB, if_pos hk2, stB_len] at hfl
    have dz := drop_of d10
    rw [stB_len] at dz
    have hv : vlS ((b.drop 10).take (hsz n)) = N := by
      have e : (b.drop 10).take (hsz n) = stB N 0 (hsz n) := by rw [d10]; exact List.take_left' (stB_len N _ _)
      have hN := wth_mod (by omega) hw
      rw [e, vlS_st, Nat.mul_zero, Nat.pow_zero, Nat.div_one, Nat.mod_eq_of_lt (Nat.lt_of_lt_of_le hN (Nat.pow_le_pow_right (by decide) (by unfold hsz; omega)))]
    rw [if_pos hk2, if_neg (by omega), hv, if_neg (by rw [hw]; decide), rd4, rdW_of (by omega) hri (by omega) dz]
    simp only [Except.ok.injEq, Prod.mk.injEq, true_and]
    omega
  · obtain rfl := h2 hk2
    rw [setB, if_neg hk2, List.nil_append] at d10
    rw [setB, if_neg hk2] at hfl
    rw [if_neg hk2, rd4, rdW_of (by omega) hri (by omega) d10]
    simp only [List.length_nil] at hfl
    simp only [Except.ok.injEq, Prod.mk.injEq, true_and]
    omega
end Go.Proofs.YtnomeinppdnhfaaGreat
namespace Go.Proofs.YtnomeinppdnhfaaGreat

theorem byt7_short {kd n fr rd N : Nat} {l : List (Int × Int × Int)} (hf : flt kd n fr rd N l = 0) : (byt7 kd n fr rd N l).length ≤ 1024 := by
  obtain ⟨hn, hfr, hrd, hw, hri⟩ := flt_0 hf
  have h1 := frm_len kd n fr rd N l
  have h2 := hsz_le (n := n) (by omega)
  have h3 := ris_len n l (-1) (by omega) (by omega) hri
  rw [byt7_len]
  omega
theorem rdE_of {kd n fr rd N : Nat} {l : List (Int × Int × Int)} (hk : 1 ≤ kd ∧ kd ≤ 3) (hf : flt kd n fr rd N l = 0) (h3 : kd = 3 → rd = 0) (h2 : kd ≠ 2 → N = 0) (r : List Nat) : rdE n (byt7 kd n fr rd N l ++ r) = if r = [] then .ok (kd, fr, rd, N, l) else .error 2 := by
  have hF := rdF_of hk hf h3 h2 (numB (sumV (frm kd n fr rd N l)) 4 ++ r)
  rw [← List.append_assoc] at hF
  have hb : frm kd n fr rd N l ++ numB (sumV (frm kd n fr rd N l)) 4 ++ r = byt7 kd n fr rd N l ++ r := rfl
  rw [hb] at hF
  have hlen : (byt7 kd n fr rd N l ++ r).length = (frm kd n fr rd N l).length + 4 + r.length := by rw [List.length_append, byt7_len]
  have hd : (byt7 kd n fr rd N l ++ r).drop (frm kd n fr rd N l).length = numB (sumV (frm kd n fr rd N l)) 4 ++ r := by rw [← hb, List.append_assoc]; exact List.drop_left' rfl
  have ht : (byt7 kd n fr rd N l ++ r).take (frm kd n fr rd N l).length = frm kd n fr rd N l := by rw [← hb, List.append_assoc]; exact List.take_left' rfl
  have hn := nm_of hd (sumV_lt _)
  rw [rdE, hF]
  dsimp only
  rw [if_neg (by omega), hn, ht, if_neg (by simp)]
  by_cases hr : r = []
  · subst hr
    rw [if_pos rfl, if_neg (by rw [List.length_nil] at hlen; omega)]
  · have := List.length_pos_iff.2 hr
    rw [if_neg hr, if_pos (by omega)]
theorem dec_of {kd n fr rd N : Nat} {l : List (Int × Int × Int)} (hk : 1 ≤ kd ∧ kd ≤ 3) (hf : flt kd n fr rd N l = 0) (h3 : kd = 3 → rd = 0) (h2 : kd ≠ 2 → N = 0) : dec n (byt7 kd n fr rd N l) = .ok (kd, fr, rd, N, l) := by
  obtain ⟨hn, _⟩ := flt_0 hf
  have hs := byt7_short hf
  rw [dec, if_neg (fun q => q hn), if_neg (by omega), Int.toNat_natCast]
  have := rdE_of hk hf h3 h2 []
  rwa [List.append_nil, if_pos rfl] at this
theorem dec_more {kd n fr rd N : Nat} {l : List (Int × Int × Int)} (hk : 1 ≤ kd ∧ kd ≤ 3) (hf : flt kd n fr rd N l = 0) (h3 : kd = 3 → rd = 0) (h2 : kd ≠ 2 → N = 0) {r : List Nat} (hr : r ≠ []) : dec n (byt7 kd n fr rd N l ++ r) = .error 2 := by
  obtain ⟨hn, _⟩ := flt_0 hf
  rw [dec, if_neg (fun q => q hn)]
  by_cases hs : 1024 < (byt7 kd n fr rd N l ++ r).length
  · rw [if_pos hs]
  · rw [if_neg hs, Int.toNat_natCast, rdE_of hk hf h3 h2 r, if_neg hr]
/-- Of another number of nodes. -/
theorem dec_other {kd n fr rd N : Nat} {l : List (Int × Int × Int)} (hk : 1 ≤ kd ∧ kd ≤ 3) (hf : flt kd n fr rd N l = 0) {m : Int} (hm : m ≠ n) : dec m (byt7 kd n fr rd N l) = .error 1 ∨ dec m (byt7 kd n fr rd N l) = .error 102 := by
  obtain ⟨hn, _⟩ := flt_0 hf
  have hs := byt7_short hf
  by_cases h1 : 1 ≤ m ∧ m ≤ 100
  case neg => exact .inl (if_pos h1)
  right
  obtain ⟨m, rfl⟩ := Int.eq_ofNat_of_zero_le (show 0 ≤ m by omega)
  rw [dec, if_neg (fun q => q h1), if_neg (by omega), Int.toNat_natCast, rdE]
  obtain ⟨b, hb⟩ : ∃ b, byt7 kd n fr rd N l = b := ⟨_, rfl⟩
  have d0 : b.drop 0 = numB 25971 2 ++ ((kd % 256) :: (n % 256) :: (fr % 256) :: (rndB kd rd ++ (setB kd n N ++ (l.length % 256 :: newsB l)) ++ numB (sumV (frm kd n fr rd N l)) 4)) := by
    rw [← hb, byt7]
    conv => lhs; rw [frm_split kd n fr rd N l]
    rw [frm_split]
    simp
  rw [hb]
  have d2 := drop_of d0
  rw [numB_len] at d2
  have d3 := drop_cons d2
  simp only [Nat.zero_add, Nat.reduceAdd] at d2 d3
  have L3 := len_cons d3
  have n0 := nm_of d0 (by decide)
  have n2 := nm_cons d2 (by omega)
  have n3 := nm_cons d3 (by omega)
  rw [rdF, if_neg (by omega), n0, if_neg (by simp), if_neg (by omega), n2, if_neg (fun q => q hk), if_neg (by omega), n3, if_pos (by omega)]

/-! cut off -/
theorem nm_take {b : List Nat} {m i k : Nat} (h : i + k ≤ m) : nm (b.take m) i k = nm b i k := by
  have e : ((b.take m).drop i).take k = (b.drop i).take k := by rw [List.drop_take, List.take_take, Nat.min_eq_left (by omega)]
  rw [nm, nm, e]
theorem getD_take {b : List Nat} {m i : Nat} (h : i < m) : (b.take m).getD i 0 = b.getD i 0 := by
  rw [List.getD_eq_getElem?_getD, List.getD_eq_getElem?_getD, List.getElem?_take, if_pos h]
def Cut {α : Type} (m j : Nat) (x y : Except Int (α × Nat)) : Prop := (j ≤ m → y = x) ∧ (m < j → y = .error 76)
theorem rdK_le {n : Nat} {b : List Nat} : ∀ (c : Nat) (a : Int) (i : Nat) (l : List (Int × Int × Int)) (j : Nat), rdK n b c a i = .ok (l, j) → i ≤ j
  | 0, a, i, l, j, h => by rw [rdK] at h; cases h; exact Nat.le_refl _
  | c + 1, a, i, l, j, h => by
    rw [rdK] at h
    split at h
    · cases h
    split at h
    · cases h
    split at h
    · cases h
    · rename_i he
      cases h
      have := rdK_le c _ _ _ _ he
      omega
theorem rdK_cut {n : Nat} {b : List Nat} {m : Nat} (hm : m ≤ b.length) : ∀ (c : Nat) (a : Int) (i : Nat) (l : List (Int × Int × Int)) (j : Nat), i ≤ m → rdK n b c a i = .ok (l, j) → i ≤ j ∧ Cut m j (rdK n b c a i) (rdK n (b.take m) c a i)
  | 0, a, i, l, j, hi, h => by
    rw [rdK] at h
    cases h
    exact ⟨Nat.le_refl _, fun _ => rfl, fun q => by omega⟩
  | c + 1, a, i, l, j, hi, h => by
    have hl : (b.take m).length = m := by rw [List.length_take]; omega
    have h' := h
    rw [rdK] at h
    split at h
    · cases h
    rename_i h5
    split at h
    · cases h
    rename_i hv
    split at h
    · cases h
    · rename_i l' j' he
      cases h
      by_cases h5' : m < i + 5
      · have hj : i + 5 ≤ j := by
          have := rdK_le c _ _ _ _ he
          exact this
        refine ⟨by omega, fun q => by omega, fun _ => ?_⟩
        rw [rdK, if_pos (by omega)]
      · obtain ⟨g1, g2, g3⟩ := rdK_cut hm c _ (i + 5) _ _ (by omega) he
        refine ⟨by omega, fun q => ?_, fun q => ?_⟩
        · rw [h', rdK, if_neg (by omega), nm_take (by omega), getD_take (by omega), getD_take (by omega), if_neg hv, g2 q, he]
        · rw [rdK, if_neg (by omega), nm_take (by omega), getD_take (by omega), getD_take (by omega), if_neg hv, g3 q]
theorem rdW_cut {n : Nat} {b : List Nat} {m : Nat} (hm : m ≤ b.length) {i : Nat} {l : List (Int × Int × Int)} {j : Nat} (hi : i ≤ m) (h : rdW n b i = .ok (l, j)) : i < j ∧ Cut m j (rdW n b i) (rdW n (b.take m) i) := by
  have hl : (b.take m).length = m := by rw [List.length_take]; omega
  have h' := h
  unfold rdW at h
  split at h
  · cases h
  rename_i h1
  split at h
  · cases h
  rename_i h2
  by_cases h1' : m < i + 1
  · have := rdK_le _ _ _ _ _ h
    refine ⟨by omega, fun q => by omega, fun _ => ?_⟩
    rw [rdW, if_pos (by omega)]
  · obtain ⟨g1, g2, g3⟩ := rdK_cut hm _ _ _ _ _ (by omega) h
    refine ⟨by omega, fun q => ?_, fun q => ?_⟩
    · rw [h', rdW, if_neg (by omega), nm_take (by omega), if_neg h2, g2 q, h]
    · rw [rdW, if_neg (by omega), nm_take (by omega), if_neg h2, g3 q]
theorem rd4_cut {n : Nat} {b : List Nat} {m : Nat} (hm : m ≤ b.length) {kd fr rd N i : Nat} {f : FN} {j : Nat} (hi : i ≤ m) (h : rd4 n b kd fr rd N i = .ok (f, j)) : i < j ∧ Cut m j (rd4 n b kd fr rd N i) (rd4 n (b.take m) kd fr rd N i) := by
  have h' := h
  unfold rd4 at h
  split at h
  · cases h
  · rename_i l j' hW
    cases h
    obtain ⟨g1, g2, g3⟩ := rdW_cut hm hi hW
    refine ⟨g1, fun q => ?_, fun q => ?_⟩
    · rw [h', rd4, g2 q, hW]
    · rw [rd4, g3 q]
theorem rd4_lt {n : Nat} {b : List Nat} {kd fr rd N i : Nat} {f : FN} {j : Nat} (h : rd4 n b kd fr rd N i = .ok (f, j)) : i < j := by
  unfold rd4 at h
  split at h
  · cases h
  · rename_i l j' hW
    cases h
    unfold rdW at hW
    split at hW
    · cases hW
    split at hW
    · cases hW
    have := rdK_le _ _ _ _ _ hW
    omega
theorem rd3_cut {n : Nat} {b : List Nat} {m : Nat} (hm : m ≤ b.length) {kd fr rd i : Nat} {f : FN} {j : Nat} (hi : i ≤ m) (h : rd3 n b kd fr rd i = .ok (f, j)) : i < j ∧ Cut m j (rd3 n b kd fr rd i) (rd3 n (b.take m) kd fr rd i) := by
  have hl : (b.take m).length = m := by rw [List.length_take]; omega
  have h' := h
  unfold rd3 at h
  split at h
  · rename_i hk
    split at h
    · cases h
    rename_i h6
    split at h
    · cases h
    rename_i hw
    have hlt := rd4_lt h
    by_cases h6' : m < i + hsz n
    · refine ⟨by omega, fun q => by omega, fun _ => ?_⟩
      rw [rd3, if_pos hk, if_pos (by omega)]
    · have e : ((b.take m).drop i).take (hsz n) = (b.drop i).take (hsz n) := by rw [List.drop_take, List.take_take, Nat.min_eq_left (by omega)]
      obtain ⟨g1, g2, g3⟩ := rd4_cut hm (show i + hsz n ≤ m by omega) h
      refine ⟨by omega, fun q => ?_, fun q => ?_⟩
      · rw [h', rd3, if_pos hk, if_neg (by omega), e, if_neg hw, g2 q, h]
      · rw [rd3, if_pos hk, if_neg (by omega), e, if_neg hw, g3 q]
  · rename_i hk
    obtain ⟨g1, g2, g3⟩ := rd4_cut hm hi h
    refine ⟨g1, fun q => ?_, fun q => ?_⟩
    · rw [h', rd3, if_neg hk, g2 q, h]
    · rw [rd3, if_neg hk, g3 q]
theorem rd3_lt {n : Nat} {b : List Nat} {kd fr rd i : Nat} {f : FN} {j : Nat} (h : rd3 n b kd fr rd i = .ok (f, j)) : i < j := by
  unfold rd3 at h
  split at h
  · split at h
    · cases h
    split at h
    · cases h
    have := rd4_lt h
    omega
  · exact rd4_lt h
theorem rd2_cut {n : Nat} {b : List Nat} {m : Nat} (hm : m ≤ b.length) {kd fr : Nat} {f : FN} {j : Nat} (hi : 5 ≤ m) (h : rd2 n b kd fr = .ok (f, j)) : 5 < j ∧ Cut m j (rd2 n b kd fr) (rd2 n (b.take m) kd fr) := by
  have hl : (b.take m).length = m := by rw [List.length_take]; omega
  have h' := h
  unfold rd2 at h
  split at h
  · rename_i hk
    obtain ⟨g1, g2, g3⟩ := rd3_cut hm hi h
    refine ⟨g1, fun q => ?_, fun q => ?_⟩
    · rw [h', rd2, if_pos hk, g2 q, h]
    · rw [rd2, if_pos hk, g3 q]
  · rename_i hk
    split at h
    · cases h
    rename_i h5
    split at h
    · cases h
    rename_i hr
    have hlt := rd3_lt h
    by_cases h5' : m < 10
    · refine ⟨by omega, fun q => by omega, fun _ => ?_⟩
      rw [rd2, if_neg hk, if_pos (by omega)]
    · obtain ⟨g1, g2, g3⟩ := rd3_cut hm (show 10 ≤ m by omega) h
      refine ⟨by omega, fun q => ?_, fun q => ?_⟩
      · rw [h', rd2, if_neg hk, if_neg (by omega), nm_take (by omega), if_neg hr, g2 q, h]
      · rw [rd2, if_neg hk, if_neg (by omega), nm_take (by omega), if_neg hr, g3 q]
theorem rdF_cut {n : Nat} {b : List Nat} {m : Nat} (hm : m ≤ b.length) {f : FN} {j : Nat} (h : rdF n b = .ok (f, j)) : (j ≤ m → rdF n (b.take m) = .ok (f, j)) ∧ (m < j → rdF n (b.take m) = .error 76) := by
  have hl : (b.take m).length = m := by rw [List.length_take]; omega
  unfold rdF at h
  split at h
  · cases h
  rename_i h1
  split at h
  · cases h
  rename_i hM
  split at h
  · cases h
  rename_i h2
  split at h
  · cases h
  rename_i hk
  split at h
  · cases h
  rename_i h3
  split at h
  · cases h
  rename_i hs
  split at h
  · cases h
  rename_i h4
  split at h
  · cases h
  rename_i hg
  have h5j : 5 < j := (rd2_cut (Nat.le_refl _) (by omega) h).1
  unfold rdF
  rw [hl]
  by_cases q2 : m < 2
  · rw [if_pos q2]; exact ⟨fun q => by omega, fun _ => rfl⟩
  rw [if_neg q2, nm_take (by omega), if_neg hM]
  by_cases q3 : m < 3
  · rw [if_pos q3]; exact ⟨fun q => by omega, fun _ => rfl⟩
  rw [if_neg q3, nm_take (by omega), if_neg hk]
  by_cases q4 : m < 4
  · rw [if_pos q4]; exact ⟨fun q => by omega, fun _ => rfl⟩
  rw [if_neg q4, nm_take (by omega), if_neg hs]
  by_cases q5 : m < 5
  · rw [if_pos q5]; exact ⟨fun q => by omega, fun _ => rfl⟩
  rw [if_neg q5, nm_take (by omega), if_neg hg]
  obtain ⟨g1, g2, g3⟩ := rd2_cut hm (by omega) h
  exact ⟨fun q => (g2 q).trans h, g3⟩
/-- What is cut off is too short. -/
theorem dec_cut {kd n fr rd N : Nat} {l : List (Int × Int × Int)} (hk : 1 ≤ kd ∧ kd ≤ 3) (hf : flt kd n fr rd N l = 0) (h3 : kd = 3 → rd = 0) (h2 : kd ≠ 2 → N = 0) {m : Nat} (hm : m < (byt7 kd n fr rd N l).length) : dec n ((byt7 kd n fr rd N l).take m) = .error 76 := by
  obtain ⟨hn, _⟩ := flt_0 hf
  have hs := byt7_short hf
  have hl : ((byt7 kd n fr rd N l).take m).length = m := by rw [List.length_take]; omega
  have hF := rdF_of hk hf h3 h2 (numB (sumV (frm kd n fr rd N l)) 4)
  obtain ⟨g1, g2⟩ := rdF_cut (b := byt7 kd n fr rd N l) (m := m) (by omega) hF
  have hbl := byt7_len kd n fr rd N l
  rw [dec, if_neg (fun q => q hn), if_neg (by omega), Int.toNat_natCast, rdE]
  by_cases q : (frm kd n fr rd N l).length ≤ m
  · rw [g1 q]
    dsimp only
    rw [if_pos (by omega)]
  · rw [g2 (by omega)]

/-! one byte turned -/
theorem byt7_tail {kd n fr rd N : Nat} {l : List (Int × Int × Int)} {b : List Nat} (h : b = byt7 kd n fr rd N l) : 4 ≤ b.length ∧ b.drop (b.length - 4) = numB (sumV (b.take (b.length - 4))) 4 := by
  have hl := byt7_len kd n fr rd N l
  rw [← h] at hl
  have e : b.length - 4 = (frm kd n fr rd N l).length := by omega
  refine ⟨by omega, ?_⟩
  rw [e, h, byt7, List.drop_left' rfl, List.take_left' rfl]
theorem sum_set : ∀ (l : List Nat) (k y x : Nat), l[k]? = some x → (l.set k y).sum + x = l.sum + y
  | [], k, y, x, h => by simp at h
  | z :: l, 0, y, x, h => by simp at h; subst h; simp; omega
  | z :: l, k + 1, y, x, h => by
    have := sum_set l k y x (by simpa using h)
    simp only [List.set_cons_succ, List.sum_cons]
    omega
theorem sumV_fst (l : List Nat) : sumV l % 65536 = (1 + l.sum) % 65521 := by
  have h1 := sumF_fst l 1 0
  have h2 := sumF_lt l 1 0 (by decide) (by decide)
  unfold sumV
  rw [Nat.mod_eq_of_lt h2.1] at h1
  omega
theorem dec_turned {kd n fr rd N : Nat} {l : List (Int × Int × Int)} {k y x : Nat} (hx : (byt7 kd n fr rd N l)[k]? = some x) (hy : y < 256) (hne : y ≠ x) (m : Int) : ∃ e, dec m ((byt7 kd n fr rd N l).set k y) = .error e := by
  obtain ⟨b, hb⟩ : ∃ b, byt7 kd n fr rd N l = b := ⟨_, rfl⟩
  have hB : Byt b := hb ▸ byt7_byt _ _ _ _ _ _
  obtain ⟨t1, t2⟩ := byt7_tail hb.symm
  rw [hb] at hx ⊢
  have hk := (List.getElem?_eq_some_iff.1 hx).1
  have hx8 := byt_get8 hB hx
  have hB' : Byt (b.set k y) := fun z hz => by
    rcases List.mem_or_eq_of_mem_set hz with q | q
    · exact hB z q
    · omega
  cases hd : dec m (b.set k y) with
  | error e => exact ⟨e, rfl⟩
  | ok f =>
    exfalso
    obtain ⟨kd', fr', rd', N', l', _, _, _, _, _, _, hb'⟩ := dec_inv hB' hd
    obtain ⟨_, u2⟩ := byt7_tail hb'
    rw [List.length_set] at u2
    by_cases hkl : k < b.length - 4
    · rw [List.drop_set_of_lt hkl, t2, List.take_set] at u2
      have := congrArg (valB 0) u2
      rw [val_num (sumV_lt _), val_num (sumV_lt _)] at this
      have a1 := sumV_fst (b.take (b.length - 4))
      have a2 := sumV_fst ((b.take (b.length - 4)).set k y)
      rw [← this] at a2
      have a3 := sum_set (b.take (b.length - 4)) k y x (by rw [List.getElem?_take, if_pos hkl]; exact hx)
      omega
    · rw [List.take_set_of_le (by omega), ← t2] at u2
      have e1 : (b.set k y)[k]? = some y := by rw [List.getElem?_set_self hk]
      have e2 : (b.set k y)[k]? = b[k]? := by
        have := congrArg (fun z => z[k - (b.length - 4)]?) u2
        simp only [List.getElem?_drop, show b.length - 4 + (k - (b.length - 4)) = k by omega] at this
        exact this
      rw [e1, hx] at e2
      exact hne (Option.some.inj e2)
end Go.Proofs.YtnomeinppdnhfaaGreat
