/- Decode of a note's bytes; of another number of nodes; of bytes that are cut off, or have others behind them: mathematics alone. -/
import Derived.Test.YtligjdmbjkppkaaWrp
namespace Go.Proofs.Ytligjdmbjkppkaa

theorem frm_split (kd n fr rd N : Nat) (l : List (Int × Int × Int)) : frm kd n fr rd N l = numB 25971 2 ++ ((kd % 256) :: (n % 256) :: (fr % 256) :: (rndB kd rd ++ (setB kd n N ++ (l.length % 256 :: newsB l)))) := by
  rw [magic]
  rfl
theorem cons_num (v : Nat) (r : List Nat) : v % 256 :: r = numB v 1 ++ r := by simp [numB]
theorem nm_cons {b : List Nat} {i v : Nat} {r : List Nat} (h : b.drop i = v % 256 :: r) (hv : v < 256) : nm b i 1 = v := nm_of (by rw [h, cons_num]) (by simpa using hv)
theorem drop_cons {b : List Nat} {i v : Nat} {r : List Nat} (h : b.drop i = v :: r) : b.drop (i + 1) = r := drop_of (l := [v]) (by rw [h]; rfl)
theorem len_cons {b : List Nat} {i v : Nat} {r : List Nat} (h : b.drop i = v :: r) : i + 1 + r.length = b.length := len_of (l := [v]) (by rw [h]; rfl) (by simp)
/-- These notices are read. -/
theorem rdK_of {n : Nat} {b : List Nat} (hn : n ≤ 100) : ∀ (l : List (Int × Int × Int)) (a : Int) (i : Nat) (r : List Nat), ris n a l = true → b.drop i = newsB l ++ r → rdK n b l.length a i = .ok (l, i + 5 * l.length)
  | [], a, i, r, _, _ => rfl
  | (o, t, k) :: l, a, i, r, h, hd => by
    simp only [ris, Bool.and_eq_true, decide_eq_true_eq] at h
    obtain ⟨hv, ha, hr⟩ := h
    obtain ⟨v1, v2, v3, v4, v5, v6⟩ := vl_bounds hv
    obtain ⟨o, rfl⟩ := Int.eq_ofNat_of_zero_le v1
    obtain ⟨t, rfl⟩ := Int.eq_ofNat_of_zero_le v3
    obtain ⟨k, rfl⟩ := Int.eq_ofNat_of_zero_le (show 0 ≤ k by omega)
    rw [newsB] at hd
    simp only [Int.toNat_natCast, List.cons_append, List.append_assoc] at hd
    have d1 := drop_cons hd
    have d2 := drop_cons d1
    have d5 := drop_of d2
    rw [numB_len] at d5
    have e0 := nm_cons hd (by omega)
    have e1 := nm_cons d1 (by omega)
    have e2 := nm_of d2 (show t < 2 ^ (8 * 3) by omega)
    have L0 := len_cons hd
    rw [List.length_cons, List.length_append, numB_len] at L0
    have g0 := getD_nm (b := b) (show i + 1 ≤ b.length by omega)
    have g1 := getD_nm (b := b) (show i + 1 + 1 ≤ b.length by omega)
    have ih := rdK_of hn l (o : Int) (i + 5) r hr d5
    rw [List.length_cons, rdK, if_neg (by omega), g0, g1, e0, e1, show i + 2 = i + 1 + 1 by omega, e2, if_neg (by rw [hv, decide_eq_true ha]; decide), ih]
    simp only [Except.ok.injEq, Prod.mk.injEq, true_and]
    omega
theorem rdW_of {n : Nat} {b : List Nat} (hn : n ≤ 100) {l : List (Int × Int × Int)} {i : Nat} {r : List Nat} (h : ris n (-1) l = true) (h1 : 1 ≤ n) (hd : b.drop i = l.length % 256 :: (newsB l ++ r)) : rdW n b i = .ok (l, i + 1 + 5 * l.length) := by
  have hl := ris_len n l (-1) (by omega) (by omega) h
  have L0 := len_cons hd
  have e0 := nm_cons hd (by omega)
  rw [rdW, if_neg (by omega), e0, if_neg (by omega)]
  exact rdK_of hn l (-1) (i + 1) r h (drop_cons hd)
theorem wth_mod {M n : Nat} (hn : n ≤ 100) (h : wthB M n = true) : M < 2 ^ n := by
  have h1 := of_decide_eq_true h
  have h2 : topW (n : Int) = n := by unfold topW; omega
  rw [h2] at h1
  rw [h1]
  exact Nat.mod_lt _ (Nat.two_pow_pos _)
/-- What is read of a form, whatever stands behind it. -/
theorem rdF_of {kd n fr rd N : Nat} {l : List (Int × Int × Int)} (hk : 1 ≤ kd ∧ kd ≤ 3) (hf : flt kd n fr rd N l = 0) (h3 : kd = 3 → rd = 0) (h2 : kd ≠ 2 → N = 0) (r : List Nat) : rdF n (frm kd n fr rd N l ++ r) = .ok ((kd, fr, rd, N, l), (frm kd n fr rd N l).length) := by
  obtain ⟨hn, hfr, hrd, hw, hri⟩ := flt_0 hf
  obtain ⟨b, hb⟩ : ∃ b, frm kd n fr rd N l ++ r = b := ⟨_, rfl⟩
  have hlen : b.length = (frm kd n fr rd N l).length + r.length := by rw [← hb, List.length_append]
  rw [hb]
  have d0 : b.drop 0 = numB 25971 2 ++ ((kd % 256) :: (n % 256) :: (fr % 256) :: (rndB kd rd ++ (setB kd n N ++ (l.length % 256 :: (newsB l ++ r))))) := by
    rw [← hb, frm_split]
    simp
  have d2 := drop_of d0
  rw [numB_len] at d2
  have d3 := drop_cons d2
  have d4 := drop_cons d3
  have d5 := drop_cons d4
  simp only [Nat.zero_add, Nat.reduceAdd] at d2 d3 d4 d5
  have L4 := len_cons d4
  have n0 := nm_of d0 (by decide)
  have n2 := nm_cons d2 (by omega)
  have n3 := nm_cons d3 (by omega)
  have n4 := nm_cons d4 (by omega)
  rw [rdF, if_neg (by omega), n0, if_neg (by simp), if_neg (by omega), n2, if_neg (fun q => q hk), if_neg (by omega), n3, if_neg (by simp), if_neg (by omega), n4, if_neg (by omega), rd2]
  have hfl : (frm kd n fr rd N l).length = 5 + ((rndB kd rd).length + ((setB kd n N).length + (1 + 5 * l.length))) := by
    unfold frm
    simp only [List.length_append, List.length_cons, List.length_nil, newsB_len]
    omega
  by_cases hk3 : kd = 3
  · obtain rfl := h3 hk3
    obtain rfl := h2 (by omega)
    rw [rndB, if_pos hk3, setB, if_neg (by omega), List.nil_append, List.nil_append] at d5
    rw [rndB, if_pos hk3, setB, if_neg (by omega)] at hfl
    rw [if_pos hk3, rd3, if_neg (by omega), rd4, rdW_of (by omega) hri (by omega) d5]
    simp only [List.length_nil] at hfl
    simp only [Except.ok.injEq, Prod.mk.injEq, true_and]
    omega
  rw [rndB, if_neg hk3] at d5
  rw [rndB, if_neg hk3, numB_len] at hfl
  have d10 := drop_of d5
  rw [numB_len] at d10
  simp only [Nat.reduceAdd] at d10
  have n5 := nm_of d5 (show rd < 2 ^ (8 * 5) by omega)
  rw [if_neg hk3, if_neg (by omega), n5, if_neg (by omega), rd3]
  by_cases hk2 : kd = 2
  · rw [setB, if_pos hk2] at d10
    rw [setB, if_pos hk2, stB_len] at hfl
    have dz := drop_of d10
    rw [stB_len] at dz
    have hv : vlS ((b.drop 10).take (hsz n)) = N := by
      have e : (b.drop 10).take (hsz n) = stB N 0 (hsz n) := by rw [d10]; exact List.take_left' (stB_len N _ _)
      have hN := wth_mod (by omega) hw
      rw [e, vlS_st, Nat.mul_zero, Nat.pow_zero, Nat.div_one, Nat.mod_eq_of_lt (Nat.lt_of_lt_of_le hN (Nat.pow_le_pow_right (by decide) (by unfold hsz; omega)))]
    rw [if_pos hk2, if_neg (by omega), hv, if_neg (by rw [hw]; decide), rd4, rdW_of (by omega) hri (by omega) dz]
    simp only [Except.ok.injEq, Prod.mk.injEq, true_and]
    omega
  · obtain rfl := h2 hk2
    rw [setB, if_neg hk2, List.nil_append] at d10
    rw [setB, if_neg hk2] at hfl
    rw [if_neg hk2, rd4, rdW_of (by omega) hri (by omega) d10]
    simp only [List.length_nil] at hfl
    simp only [Except.ok.injEq, Prod.mk.injEq, true_and]
    omega
end Go.Proofs.Ytligjdmbjkppkaa
