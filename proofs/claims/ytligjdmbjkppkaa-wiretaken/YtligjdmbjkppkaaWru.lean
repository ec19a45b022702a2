/- Decode of a note's bytes, of another number of nodes, cut off, with bytes behind them, with one byte turned: mathematics alone. -/
import Derived.Test.YtligjdmbjkppkaaWrt
namespace Go.Proofs.Ytligjdmbjkppkaa

theorem byt7_short {kd n fr rd N : Nat} {l : List (Int × Int × Int)} (hf : flt kd n fr rd N l = 0) : (byt7 kd n fr rd N l).length ≤ 1024 := by
  obtain ⟨hn, hfr, hrd, hw, hri⟩ := flt_0 hf
  have h1 := frm_len kd n fr rd N l
  have h2 := hsz_le (n := n) (by omega)
  have h3 := ris_len n l (-1) (by omega) (by omega) hri
  rw [byt7_len]
  omega
theorem rdE_of {kd n fr rd N : Nat} {l : List (Int × Int × Int)} (hk : 1 ≤ kd ∧ kd ≤ 3) (hf : flt kd n fr rd N l = 0) (h3 : kd = 3 → rd = 0) (h2 : kd ≠ 2 → N = 0) (r : List Nat) : rdE n (byt7 kd n fr rd N l ++ r) = if r = [] then .ok (kd, fr, rd, N, l) else .error 2 := by
  have hF := rdF_of hk hf h3 h2 (numB (sumV (frm kd n fr rd N l)) 4 ++ r)
  rw [← List.append_assoc] at hF
  have hb : frm kd n fr rd N l ++ numB (sumV (frm kd n fr rd N l)) 4 ++ r = byt7 kd n fr rd N l ++ r := rfl
  rw [hb] at hF
  have hlen : (byt7 kd n fr rd N l ++ r).length = (frm kd n fr rd N l).length + 4 + r.length := by rw [List.length_append, byt7_len]
  have hd : (byt7 kd n fr rd N l ++ r).drop (frm kd n fr rd N l).length = numB (sumV (frm kd n fr rd N l)) 4 ++ r := by rw [← hb, List.append_assoc]; exact List.drop_left' rfl
  have ht : (byt7 kd n fr rd N l ++ r).take (frm kd n fr rd N l).length = frm kd n fr rd N l := by rw [← hb, List.append_assoc]; exact List.take_left' rfl
  have hn := nm_of hd (sumV_lt _)
  rw [rdE, hF]
  dsimp only
  rw [if_neg (by omega), hn, ht, if_neg (by simp)]
  by_cases hr : r = []
  · subst hr
    rw [if_pos rfl, if_neg (by rw [List.length_nil] at hlen; omega)]
  · have := List.length_pos_iff.2 hr
    rw [if_neg hr, if_pos (by omega)]
theorem dec_of {kd n fr rd N : Nat} {l : List (Int × Int × Int)} (hk : 1 ≤ kd ∧ kd ≤ 3) (hf : flt kd n fr rd N l = 0) (h3 : kd = 3 → rd = 0) (h2 : kd ≠ 2 → N = 0) : dec n (byt7 kd n fr rd N l) = .ok (kd, fr, rd, N, l) := by
  obtain ⟨hn, _⟩ := flt_0 hf
  have hs := byt7_short hf
  rw [dec, if_neg (fun q => q hn), if_neg (by omega), Int.toNat_natCast]
  have := rdE_of hk hf h3 h2 []
  rwa [List.append_nil, if_pos rfl] at this
theorem dec_more {kd n fr rd N : Nat} {l : List (Int × Int × Int)} (hk : 1 ≤ kd ∧ kd ≤ 3) (hf : flt kd n fr rd N l = 0) (h3 : kd = 3 → rd = 0) (h2 : kd ≠ 2 → N = 0) {r : List Nat} (hr : r ≠ []) : dec n (byt7 kd n fr rd N l ++ r) = .error 2 := by
  obtain ⟨hn, _⟩ := flt_0 hf
  rw [dec, if_neg (fun q => q hn)]
  by_cases hs : 1024 < (byt7 kd n fr rd N l ++ r).length
  · rw [if_pos hs]
  · rw [if_neg hs, Int.toNat_natCast, rdE_of hk hf h3 h2 r, if_neg hr]
/-- Of another number of nodes. -/
theorem dec_other {kd n fr rd N : Nat} {l : List (Int × Int × Int)} (hk : 1 ≤ kd ∧ kd ≤ 3) (hf : flt kd n fr rd N l = 0) {m : Int} (hm : m ≠ n) : dec m (byt7 kd n fr rd N l) = .error 1 ∨ dec m (byt7 kd n fr rd N l) = .error 102 := by
  obtain ⟨hn, _⟩ := flt_0 hf
  have hs := byt7_short hf
  by_cases h1 : 1 ≤ m ∧ m ≤ 100
  case neg => exact .inl (if_pos h1)
  right
  obtain ⟨m, rfl⟩ := Int.eq_ofNat_of_zero_le (show 0 ≤ m by omega)
  rw [dec, if_neg (fun q => q h1), if_neg (by omega), Int.toNat_natCast, rdE]
  obtain ⟨b, hb⟩ : ∃ b, byt7 kd n fr rd N l = b := ⟨_, rfl⟩
  have d0 : b.drop 0 = numB 25971 2 ++ ((kd % 256) :: (n % 256) :: (fr % 256) :: (rndB kd rd ++ (setB kd n N ++ (l.length % 256 :: newsB l)) ++ numB (sumV (frm kd n fr rd N l)) 4)) := by
    rw [← hb, byt7]
    conv => lhs; rw [frm_split kd n fr rd N l]
    rw [frm_split]
    simp
  rw [hb]
  have d2 := drop_of d0
  rw [numB_len] at d2
  have d3 := drop_cons d2
  simp only [Nat.zero_add, Nat.reduceAdd] at d2 d3
  have L3 := len_cons d3
  have n0 := nm_of d0 (by decide)
  have n2 := nm_cons d2 (by omega)
  have n3 := nm_cons d3 (by omega)
  rw [rdF, if_neg (by omega), n0, if_neg (by simp), if_neg (by omega), n2, if_neg (fun q => q hk), if_neg (by omega), n3, if_pos (by omega)]

/-! cut off -/
theorem nm_take {b : List Nat} {m i k : Nat} (h : i + k ≤ m) : nm (b.take m) i k = nm b i k := by
  have e : ((b.take m).drop i).take k = (b.drop i).take k := by rw [List.drop_take, List.take_take, Nat.min_eq_left (by omega)]
  rw [nm, nm, e]
theorem getD_take {b : List Nat} {m i : Nat} (h : i < m) : (b.take m).getD i 0 = b.getD i 0 := by
  rw [List.getD_eq_getElem?_getD, List.getD_eq_getElem?_getD, List.getElem?_take, if_pos h]
def Cut {α : Type} (m j : Nat) (x y : Except Int (α × Nat)) : Prop := (j ≤ m → y = x) ∧ (m < j → y = .error 76)
theorem rdK_le {n : Nat} {b : List Nat} : ∀ (c : Nat) (a : Int) (i : Nat) (l : List (Int × Int × Int)) (j : Nat), rdK n b c a i = .ok (l, j) → i ≤ j
  | 0, a, i, l, j, h => by rw [rdK] at h; cases h; exact Nat.le_refl _
  | c + 1, a, i, l, j, h => by
    rw [rdK] at h
    split at h
    · cases h
    split at h
    · cases h
    split at h
    · cases h
    · rename_i he
      cases h
      have := rdK_le c _ _ _ _ he
      omega
theorem rdK_cut {n : Nat} {b : List Nat} {m : Nat} (hm : m ≤ b.length) : ∀ (c : Nat) (a : Int) (i : Nat) (l : List (Int × Int × Int)) (j : Nat), i ≤ m → rdK n b c a i = .ok (l, j) → i ≤ j ∧ Cut m j (rdK n b c a i) (rdK n (b.take m) c a i)
  | 0, a, i, l, j, hi, h => by
    rw [rdK] at h
    cases h
    exact ⟨Nat.le_refl _, fun _ => rfl, fun q => by omega⟩
  | c + 1, a, i, l, j, hi, h => by
    have hl : (b.take m).length = m := by rw [List.length_take]; omega
    have h' := h
    rw [rdK] at h
    split at h
    · cases h
    rename_i h5
    split at h
    · cases h
    rename_i hv
    split at h
    · cases h
    · rename_i l' j' he
      cases h
      by_cases h5' : m < i + 5
      · have hj : i + 5 ≤ j := by
          have := rdK_le c _ _ _ _ he
          exact this
        refine ⟨by omega, fun q => by omega, fun _ => ?_⟩
        rw [rdK, if_pos (by omega)]
      · obtain ⟨g1, g2, g3⟩ := rdK_cut hm c _ (i + 5) _ _ (by omega) he
        refine ⟨by omega, fun q => ?_, fun q => ?_⟩
        · rw [h', rdK, if_neg (by omega), nm_take (by omega), getD_take (by omega), getD_take (by omega), if_neg hv, g2 q, he]
        · rw [rdK, if_neg (by omega), nm_take (by omega), getD_take (by omega), getD_take (by omega), if_neg hv, g3 q]
theorem rdW_cut {n : Nat} {b : List Nat} {m : Nat} (hm : m ≤ b.length) {i : Nat} {l : List (Int × Int × Int)} {j : Nat} (hi : i ≤ m) (h : rdW n b i = .ok (l, j)) : i < j ∧ Cut m j (rdW n b i) (rdW n (b.take m) i) := by
  have hl : (b.take m).length = m := by rw [List.length_take]; omega
  have h' := h
  unfold rdW at h
  split at h
  · cases h
  rename_i h1
  split at h
  · cases h
  rename_i h2
  by_cases h1' : m < i + 1
  · have := rdK_le _ _ _ _ _ h
    refine ⟨by omega, fun q => by omega, fun _ => ?_⟩
    rw [rdW, if_pos (by omega)]
  · obtain ⟨g1, g2, g3⟩ := rdK_cut hm _ _ _ _ _ (by omega) h
    refine ⟨by omega, fun q => ?_, fun q => ?_⟩
    · rw [h', rdW, if_neg (by omega), nm_take (by omega), if_neg h2, g2 q, h]
    · rw [rdW, if_neg (by omega), nm_take (by omega), if_neg h2, g3 q]
theorem rd4_cut {n : Nat} {b : List Nat} {m : Nat} (hm : m ≤ b.length) {kd fr rd N i : Nat} {f : FN} {j : Nat} (hi : i ≤ m) (h : rd4 n b kd fr rd N i = .ok (f, j)) : i < j ∧ Cut m j (rd4 n b kd fr rd N i) (rd4 n (b.take m) kd fr rd N i) := by
  have h' := h
  unfold rd4 at h
  split at h
  · cases h
  · rename_i l j' hW
    cases h
    obtain ⟨g1, g2, g3⟩ := rdW_cut hm hi hW
    refine ⟨g1, fun q => ?_, fun q => ?_⟩
    · rw [h', rd4, g2 q, hW]
    · rw [rd4, g3 q]
theorem rd4_lt {n : Nat} {b : List Nat} {kd fr rd N i : Nat} {f : FN} {j : Nat} (h : rd4 n b kd fr rd N i = .ok (f, j)) : i < j := by
  unfold rd4 at h
  split at h
  · cases h
  · rename_i l j' hW
    cases h
    unfold rdW at hW
    split at hW
    · cases hW
    split at hW
    · cases hW
    have := rdK_le _ _ _ _ _ hW
    omega
theorem rd3_cut {n : Nat} {b : List Nat} {m : Nat} (hm : m ≤ b.length) {kd fr rd i : Nat} {f : FN} {j : Nat} (hi : i ≤ m) (h : rd3 n b kd fr rd i = .ok (f, j)) : i < j ∧ Cut m j (rd3 n b kd fr rd i) (rd3 n (b.take m) kd fr rd i) := by
  have hl : (b.take m).length = m := by rw [List.length_take]; omega
  have h' := h
  unfold rd3 at h
  split at h
  · rename_i hk
    split at h
    · cases h
    rename_i h6
    split at h
    · cases h
    rename_i hw
    have hlt := rd4_lt h
    by_cases h6' : m < i + hsz n
    · refine ⟨by omega, fun q => by omega, fun _ => ?_⟩
      rw [rd3, if_pos hk, if_pos (by omega)]
    · have e : ((b.take m).drop i).take (hsz n) = (b.drop i).take (hsz n) := by rw [List.drop_take, List.take_take, Nat.min_eq_left (by omega)]
      obtain ⟨g1, g2, g3⟩ := rd4_cut hm (show i + hsz n ≤ m by omega) h
      refine ⟨by omega, fun q => ?_, fun q => ?_⟩
      · rw [h', rd3, if_pos hk, if_neg (by omega), e, if_neg hw, g2 q, h]
      · rw [rd3, if_pos hk, if_neg (by omega), e, if_neg hw, g3 q]
  · rename_i hk
    obtain ⟨g1, g2, g3⟩ := rd4_cut hm hi h
    refine ⟨g1, fun q => ?_, fun q => ?_⟩
    · rw [h', rd3, if_neg hk, g2 q, h]
    · rw [rd3, if_neg hk, g3 q]
theorem rd3_lt {n : Nat} {b : List Nat} {kd fr rd i : Nat} {f : FN} {j : Nat} (h : rd3 n b kd fr rd i = .ok (f, j)) : i < j := by
  unfold rd3 at h
  split at h
  · split at h
    · cases h
    split at h
    · cases h
    have := rd4_lt h
    omega
  · exact rd4_lt h
theorem rd2_cut {n : Nat} {b : List Nat} {m : Nat} (hm : m ≤ b.length) {kd fr : Nat} {f : FN} {j : Nat} (hi : 5 ≤ m) (h : rd2 n b kd fr = .ok (f, j)) : 5 < j ∧ Cut m j (rd2 n b kd fr) (rd2 n (b.take m) kd fr) := by
  have hl : (b.take m).length = m := by rw [List.length_take]; omega
  have h' := h
  unfold rd2 at h
  split at h
  · rename_i hk
    obtain ⟨g1, g2, g3⟩ := rd3_cut hm hi h
    refine ⟨g1, fun q => ?_, fun q => ?_⟩
    · rw [h', rd2, if_pos hk, g2 q, h]
    · rw [rd2, if_pos hk, g3 q]
  · rename_i hk
    split at h
    · cases h
    rename_i h5
    split at h
    · cases h
    rename_i hr
    have hlt := rd3_lt h
    by_cases h5' : m < 10
    · refine ⟨by omega, fun q => by omega, fun _ => ?_⟩
      rw [rd2, if_neg hk, if_pos (by omega)]
    · obtain ⟨g1, g2, g3⟩ := rd3_cut hm (show 10 ≤ m by omega) h
      refine ⟨by omega, fun q => ?_, fun q => ?_⟩
      · rw [h', rd2, if_neg hk, if_neg (by omega), nm_take (by omega), if_neg hr, g2 q, h]
      · rw [rd2, if_neg hk, if_neg (by omega), nm_take (by omega), if_neg hr, g3 q]
theorem rdF_cut {n : Nat} {b : List Nat} {m : Nat} (hm : m ≤ b.length) {f : FN} {j : Nat} (h : rdF n b = .ok (f, j)) : (j ≤ m → rdF n (b.take m) = .ok (f, j)) ∧ (m < j → rdF n (b.take m) = .error 76) := by
  have hl : (b.take m).length = m := by rw [List.length_take]; omega
  unfold rdF at h
  split at h
  · cases h
  rename_i h1
  split at h
  · cases h
  rename_i hM
  split at h
  · cases h
  rename_i h2
  split at h
  · cases h
  rename_i hk
  split at h
  · cases h
  rename_i h3
  split at h
  · cases h
  rename_i hs
  split at h
  · cases h
  rename_i h4
  split at h
  · cases h
  rename_i hg
  have h5j : 5 < j := (rd2_cut (Nat.le_refl _) (by omega) h).1
  unfold rdF
  rw [hl]
  by_cases q2 : m < 2
  · rw [if_pos q2]; exact ⟨fun q => by omega, fun _ => rfl⟩
  rw [if_neg q2, nm_take (by omega), if_neg hM]
  by_cases q3 : m < 3
  · rw [if_pos q3]; exact ⟨fun q => by omega, fun _ => rfl⟩
  rw [if_neg q3, nm_take (by omega), if_neg hk]
  by_cases q4 : m < 4
  · rw [if_pos q4]; exact ⟨fun q => by omega, fun _ => rfl⟩
  rw [if_neg q4, nm_take (by omega), if_neg hs]
  by_cases q5 : m < 5
  · rw [if_pos q5]; exact ⟨fun q => by omega, fun _ => rfl⟩
  rw [if_neg q5, nm_take (by omega), if_neg hg]
  obtain ⟨g1, g2, g3⟩ := rd2_cut hm (by omega) h
  exact ⟨fun q => (g2 q).trans h, g3⟩
/-- What is cut off is too short. -/
theorem dec_cut {kd n fr rd N : Nat} {l : List (Int × Int × Int)} (hk : 1 ≤ kd ∧ kd ≤ 3) (hf : flt kd n fr rd N l = 0) (h3 : kd = 3 → rd = 0) (h2 : kd ≠ 2 → N = 0) {m : Nat} (hm : m < (byt7 kd n fr rd N l).length) : dec n ((byt7 kd n fr rd N l).take m) = .error 76 := by
  obtain ⟨hn, _⟩ := flt_0 hf
  have hs := byt7_short hf
  have hl : ((byt7 kd n fr rd N l).take m).length = m := by rw [List.length_take]; omega
  have hF := rdF_of hk hf h3 h2 (numB (sumV (frm kd n fr rd N l)) 4)
  obtain ⟨g1, g2⟩ := rdF_cut (b := byt7 kd n fr rd N l) (m := m) (by omega) hF
  have hbl := byt7_len kd n fr rd N l
  rw [dec, if_neg (fun q => q hn), if_neg (by omega), Int.toNat_natCast, rdE]
  by_cases q : (frm kd n fr rd N l).length ≤ m
  · rw [g1 q]
    dsimp only
    rw [if_pos (by omega)]
  · rw [g2 (by omega)]

/-! one byte turned -/
theorem byt7_tail {kd n fr rd N : Nat} {l : List (Int × Int × Int)} {b : List Nat} (h : b = byt7 kd n fr rd N l) : 4 ≤ b.length ∧ b.drop (b.length - 4) = numB (sumV (b.take (b.length - 4))) 4 := by
  have hl := byt7_len kd n fr rd N l
  rw [← h] at hl
  have e : b.length - 4 = (frm kd n fr rd N l).length := by omega
  refine ⟨by omega, ?_⟩
  rw [e, h, byt7, List.drop_left' rfl, List.take_left' rfl]
theorem sum_set : ∀ (l : List Nat) (k y x : Nat), l[k]? = some x → (l.set k y).sum + x = l.sum + y
  | [], k, y, x, h => by simp at h
  | z :: l, 0, y, x, h => by simp at h; subst h; simp; omega
  | z :: l, k + 1, y, x, h => by
    have := sum_set l k y x (by simpa using h)
    simp only [List.set_cons_succ, List.sum_cons]
    omega
theorem sumV_fst (l : List Nat) : sumV l % 65536 = (1 + l.sum) % 65521 := by
  have h1 := sumF_fst l 1 0
  have h2 := sumF_lt l 1 0 (by decide) (by decide)
  unfold sumV
  rw [Nat.mod_eq_of_lt h2.1] at h1
  omega
theorem dec_turned {kd n fr rd N : Nat} {l : List (Int × Int × Int)} {k y x : Nat} (hx : (byt7 kd n fr rd N l)[k]? = some x) (hy : y < 256) (hne : y ≠ x) (m : Int) : ∃ e, dec m ((byt7 kd n fr rd N l).set k y) = .error e := by
  obtain ⟨b, hb⟩ : ∃ b, byt7 kd n fr rd N l = b := ⟨_, rfl⟩
  have hB : Byt b := hb ▸ byt7_byt _ _ _ _ _ _
  obtain ⟨t1, t2⟩ := byt7_tail hb.symm
  rw [hb] at hx ⊢
  have hk := (List.getElem?_eq_some_iff.1 hx).1
  have hx8 := byt_get8 hB hx
  have hB' : Byt (b.set k y) := fun z hz => by
    rcases List.mem_or_eq_of_mem_set hz with q | q
    · exact hB z q
    · omega
  cases hd : dec m (b.set k y) with
  | error e => exact ⟨e, rfl⟩
  | ok f =>
    exfalso
    obtain ⟨kd', fr', rd', N', l', _, _, _, _, _, _, hb'⟩ := dec_inv hB' hd
    obtain ⟨_, u2⟩ := byt7_tail hb'
    rw [List.length_set] at u2
    by_cases hkl : k < b.length - 4
    · rw [List.drop_set_of_lt hkl, t2, List.take_set] at u2
      have := congrArg (valB 0) u2
      rw [val_num (sumV_lt _), val_num (sumV_lt _)] at this
      have a1 := sumV_fst (b.take (b.length - 4))
      have a2 := sumV_fst ((b.take (b.length - 4)).set k y)
      rw [← this] at a2
      have a3 := sum_set (b.take (b.length - 4)) k y x (by rw [List.getElem?_take, if_pos hkl]; exact hx)
      omega
    · rw [List.take_set_of_le (by omega), ← t2] at u2
      have e1 : (b.set k y)[k]? = some y := by rw [List.getElem?_set_self hk]
      have e2 : (b.set k y)[k]? = b[k]? := by
        have := congrArg (fun z => z[k - (b.length - 4)]?) u2
        simp only [List.getElem?_drop, show b.length - 4 + (k - (b.length - 4)) = k by omega] at this
        exact this
      rw [e1, hx] at e2
      exact hne (Option.some.inj e2)
end Go.Proofs.Ytligjdmbjkppkaa
