/- What Decode tells, and of what bytes: mathematics alone. -/
import Derived.Test.YtligjdmbjkppkaaWri
import Derived.Test.YtligjdmbjkppkaaWre
namespace Go.Proofs.Ytligjdmbjkppkaa

theorem rdK_err {n : Nat} {b : List Nat} : ∀ (c : Nat) (a : Int) (i : Nat) (e : Int), rdK n b c a i = .error e → e = 75 ∨ e = 76
  | 0, a, i, e, h => by cases h
  | c + 1, a, i, e, h => by
    rw [rdK] at h
    split at h
    · cases h; exact .inr rfl
    split at h
    · cases h; exact .inl rfl
    split at h
    · rename_i e' he
      cases h
      exact rdK_err c _ _ _ he
    · cases h
theorem rdW_err {n : Nat} {b : List Nat} {i : Nat} {e : Int} (h : rdW n b i = .error e) : e = 75 ∨ e = 76 := by
  unfold rdW at h
  split at h
  · cases h; exact .inr rfl
  split at h
  · cases h; exact .inl rfl
  exact rdK_err _ _ _ _ h
theorem rd4_err {n : Nat} {b : List Nat} {kd fr rd N i : Nat} {e : Int} (h : rd4 n b kd fr rd N i = .error e) : e = 75 ∨ e = 76 := by
  unfold rd4 at h
  split at h
  · rename_i e' he
    cases h
    exact rdW_err he
  · cases h
theorem rd3_err {n : Nat} {b : List Nat} {kd fr rd i : Nat} {e : Int} (h : rd3 n b kd fr rd i = .error e) : e = 74 ∨ e = 75 ∨ e = 76 := by
  unfold rd3 at h
  split at h
  · split at h
    · cases h; exact .inr (.inr rfl)
    split at h
    · cases h; exact .inl rfl
    · exact .inr (rd4_err h)
  · exact .inr (rd4_err h)
theorem rd2_err {n : Nat} {b : List Nat} {kd fr : Nat} {e : Int} (h : rd2 n b kd fr = .error e) : 73 ≤ e ∧ e ≤ 76 := by
  unfold rd2 at h
  split at h
  · have := rd3_err h; omega
  split at h
  · cases h; omega
  split at h
  · cases h; omega
  · have := rd3_err h; omega
theorem rdF_err {n : Nat} {b : List Nat} {e : Int} (h : rdF n b = .error e) : 70 ≤ e := by
  unfold rdF at h
  split at h
  · cases h; omega
  split at h
  · cases h; omega
  split at h
  · cases h; omega
  split at h
  · cases h; omega
  split at h
  · cases h; omega
  split at h
  · cases h; omega
  split at h
  · cases h; omega
  split at h
  · cases h; omega
  · have := rd2_err h; omega
/-- An error is one. -/
theorem dec_err {n : Int} {b : List Nat} {e : Int} (h : dec n b = .error e) : e ≠ 0 := by
  unfold dec at h
  split at h
  · cases h; omega
  split at h
  · cases h; omega
  unfold rdE at h
  split at h
  · rename_i e' he
    cases h
    have := rdF_err he
    omega
  split at h
  · cases h; omega
  split at h
  · cases h; omega
  split at h
  · cases h; omega
  · cases h

/-- What is read of so many bytes is these bytes. -/
theorem drop_sub (b : List Nat) (i m : Nat) : b.drop i = (b.drop i).take m ++ b.drop (i + m) := by
  rw [← List.drop_drop, List.take_append_drop]
theorem sub_len' {b : List Nat} {i m : Nat} (h : i + m ≤ b.length) : ((b.drop i).take m).length = m := by rw [List.length_take, List.length_drop]; omega
theorem drop_num {b : List Nat} (hb : Byt b) {i m : Nat} (h : i + m ≤ b.length) : b.drop i = numB (nm b i m) m ++ b.drop (i + m) := by
  have h1 := num_val ((b.drop i).take m) ((hb.drop i).take m)
  rw [sub_len' h] at h1
  rw [nm, h1]
  exact drop_sub b i m
theorem drop_set {b : List Nat} (hb : Byt b) {i m : Nat} (h : i + m ≤ b.length) : b.drop i = stB (vlS ((b.drop i).take m)) 0 m ++ b.drop (i + m) := by
  have h1 := st_vl ((b.drop i).take m) ((hb.drop i).take m)
  rw [sub_len' h] at h1
  rw [h1]
  exact drop_sub b i m
theorem num1 (v : Nat) (h : v < 256) : numB v 1 = [v] := by simp [numB, Nat.mod_eq_of_lt h]
theorem nm1_lt {b : List Nat} (hb : Byt b) {i : Nat} (h : i + 1 ≤ b.length) : nm b i 1 < 256 := by
  have := valB_lt _ ((hb.drop i).take 1)
  rw [sub_len' h] at this
  exact this
theorem drop_one {b : List Nat} (hb : Byt b) {i : Nat} (h : i + 1 ≤ b.length) : b.drop i = nm b i 1 :: b.drop (i + 1) := by
  have := drop_num hb h
  rwa [num1 _ (nm1_lt hb h)] at this
theorem getD_nm {b : List Nat} {i : Nat} (h : i + 1 ≤ b.length) : b.getD i 0 = nm b i 1 := by
  have e : (b.drop i).take 1 = [b.getD i 0] := by
    rw [List.getD_eq_getElem?_getD, List.getElem?_eq_getElem (by omega : i < b.length), List.drop_eq_getElem_cons (by omega : i < b.length)]
    rfl
  rw [nm, e]
  simp [valB]
theorem nm_of {b : List Nat} {i m v : Nat} {r : List Nat} (h : b.drop i = numB v m ++ r) (hv : v < 2 ^ (8 * m)) : nm b i m = v := by
  have e : (b.drop i).take m = numB v m := by rw [h]; exact List.take_left' (numB_len v m)
  rw [nm, e, val_num hv]
theorem drop_of {b : List Nat} {i : Nat} {l r : List Nat} (h : b.drop i = l ++ r) : b.drop (i + l.length) = r := by
  rw [← List.drop_drop, h, List.drop_left' rfl]
theorem len_of {b : List Nat} {i : Nat} {l r : List Nat} (h : b.drop i = l ++ r) (hl : l ≠ []) : i + l.length + r.length = b.length := by
  have := congrArg List.length h
  rw [List.length_drop, List.length_append] at this
  have : 0 < l.length := List.length_pos_iff.2 hl
  omega
/-- So many notices that are read are these bytes. -/
theorem rdK_inv {n : Nat} {b : List Nat} (hb : Byt b) : ∀ (c : Nat) (a : Int) (i : Nat) (l : List (Int × Int × Int)) (j : Nat), rdK n b c a i = .ok (l, j) → l.length = c ∧ ris n a l = true ∧ j = i + 5 * c ∧ (i ≤ b.length → j ≤ b.length) ∧ b.drop i = newsB l ++ b.drop j
  | 0, a, i, l, j, h => by
    rw [rdK] at h
    cases h
    exact ⟨rfl, rfl, by omega, id, rfl⟩
  | c + 1, a, i, l, j, h => by
    rw [rdK] at h
    split at h
    · cases h
    rename_i h5
    split at h
    · cases h
    rename_i hv
    split at h
    · cases h
    · rename_i l' j' he
      cases h
      obtain ⟨g1, g2, g3, g4, g5⟩ := rdK_inv hb c _ _ _ _ he
      have hv2 : (vl n (b.getD i 0 : Nat) (nm b (i + 2) 3 : Nat) (b.getD (i + 1) 0 : Nat) && decide (a < ((b.getD i 0 : Nat) : Int))) = true := by simpa using hv
      rw [Bool.and_eq_true] at hv2
      refine ⟨by simp [g1], ?_, by omega, fun _ => g4 (by omega), ?_⟩
      · simp only [ris, Bool.and_eq_true]
        exact ⟨hv2.1, hv2.2, g2⟩
      · have e0 := drop_one hb (show i + 1 ≤ b.length by omega)
        have e1 := drop_one hb (show i + 1 + 1 ≤ b.length by omega)
        have e2 := drop_num hb (show i + 1 + 1 + 3 ≤ b.length by omega)
        have l0 := nm1_lt hb (show i + 1 ≤ b.length by omega)
        have l1 := nm1_lt hb (show i + 1 + 1 ≤ b.length by omega)
        rw [e0, e1, e2, show i + 1 + 1 + 3 = i + 5 by omega, g5, getD_nm (show i + 1 ≤ b.length by omega), getD_nm (show i + 1 + 1 ≤ b.length by omega), newsB]
        simp only [Int.toNat_natCast, List.cons_append, List.append_assoc, Nat.mod_eq_of_lt l0, Nat.mod_eq_of_lt l1]
theorem rdW_inv {n : Nat} {b : List Nat} (hb : Byt b) {i : Nat} {l : List (Int × Int × Int)} {j : Nat} (h : rdW n b i = .ok (l, j)) : l.length ≤ n ∧ l.length < 256 ∧ ris n (-1) l = true ∧ j = i + 1 + 5 * l.length ∧ j ≤ b.length ∧ b.drop i = l.length :: (newsB l ++ b.drop j) := by
  unfold rdW at h
  split at h
  · cases h
  rename_i h1
  split at h
  · cases h
  rename_i h2
  obtain ⟨g1, g2, g3, g4, g5⟩ := rdK_inv hb _ _ _ _ _ h
  have l0 := nm1_lt hb (show i + 1 ≤ b.length by omega)
  have e0 := drop_one hb (show i + 1 ≤ b.length by omega)
  refine ⟨by omega, by omega, g2, by omega, g4 (by omega), ?_⟩
  rw [e0, g5, g1]
end Go.Proofs.Ytligjdmbjkppkaa
