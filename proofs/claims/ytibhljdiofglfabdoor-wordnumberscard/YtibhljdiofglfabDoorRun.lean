/- The plain mathematics of texts that are written rune by rune: for every list of runes. -/
import Derived.Test.YtibhljdiofglfabDoorChr
namespace Go.Proofs.YtibhljdiofglfabDoor

/-- The rune that is written for r. -/
def code (r : Int) : Nat := if Utf8.valid r then r.toNat else 65533
theorem code_ok (r : Int) : code r < 55296 ∨ (57344 ≤ code r ∧ code r ≤ 1114111) := by
  unfold code
  split
  · rename_i h
    simp only [Utf8.valid, Bool.or_eq_true, Bool.and_eq_true, decide_eq_true_eq] at h
    omega
  · right; omega
/-- How many bytes it has. -/
def clen (c : Nat) : Nat := if c < 128 then 1 else if c < 2048 then 2 else if c < 65536 then 3 else 4
theorem get_at (s : ByteArray) (A E C : List UInt8) (h : s.data.toList = A ++ (E ++ C)) (j : Nat) (hj : j < E.length) : (s.get! (A.length + j)).toNat = (E[j]).toNat ∧ A.length + j < s.size := by
  have hl : s.data.toList.length = s.size := by simp
  have hlt : A.length + j < s.size := by rw [← hl, h]; simp; omega
  refine ⟨?_, hlt⟩
  rw [get_eq s _ hlt]
  have : s.data.toList[A.length + j]'(by simpa using hlt) = E[j] := by
    simp only [h]
    rw [List.getElem_append_right (by omega)]
    simp only [Nat.add_sub_cancel_left]
    rw [List.getElem_append_left hj]
  rw [this]
theorem enc_list (r : Int) : (Utf8.encode r).data.toList = if code r < 128 then [UInt8.ofNat (code r)] else if code r < 2048 then [UInt8.ofNat (192 + code r / 64), UInt8.ofNat (128 + code r % 64)]
    else if code r < 65536 then [UInt8.ofNat (224 + code r / 4096), UInt8.ofNat (128 + code r / 64 % 64), UInt8.ofNat (128 + code r % 64)] else [UInt8.ofNat (240 + code r / 262144), UInt8.ofNat (128 + code r / 4096 % 64), UInt8.ofNat (128 + code r / 64 % 64), UInt8.ofNat (128 + code r % 64)] := by
  have hc : (if Utf8.valid r then r.toNat else Utf8.runeError) = code r := by unfold code Utf8.runeError; rfl
  unfold Utf8.encode
  simp only [hc]
  split
  · rfl
  · split
    · rfl
    · split <;> rfl
theorem enc_len (r : Int) : (Utf8.encode r).data.toList.length = clen (code r) := by
  rw [enc_list]
  unfold clen
  repeat' split
  all_goals rfl
theorem ofNat8 (n : Nat) (h : n < 256) : (UInt8.ofNat n).toNat = n := by simp; omega

/-- What was written is read. -/
theorem dec_enc (s : ByteArray) (A C : List UInt8) (r : Int) (h : s.data.toList = A ++ ((Utf8.encode r).data.toList ++ C)) : Utf8.decode s A.length = (code r, clen (code r)) := by
  have hok := code_ok r
  have hel := enc_list r
  generalize (Utf8.encode r).data.toList = E at *
  generalize code r = c at *
  rw [shape]
  unfold clen
  by_cases c1 : c < 128
  · rw [if_pos c1] at hel ⊢
    subst hel
    have g0 := get_at s A _ C h 0 (by simp)
    simp only [List.getElem_cons_zero, Nat.add_zero] at g0
    rw [ofNat8 _ (by omega)] at g0
    unfold Lib.decodeN
    rw [g0.1, if_pos c1]
  rw [if_neg c1] at hel ⊢
  by_cases c2 : c < 2048
  · rw [if_pos c2] at hel ⊢
    subst hel
    have g0 := get_at s A _ C h 0 (by simp)
    have g1 := get_at s A _ C h 1 (by simp)
    simp only [List.getElem_cons_zero, List.getElem_cons_succ, Nat.add_zero] at g0 g1
    rw [ofNat8 _ (by omega)] at g0 g1
    unfold Lib.decodeN
    rw [g0.1, g1.1, if_neg (by omega), if_pos (by omega), if_pos (by omega)]
    congr 1
    omega
  rw [if_neg c2] at hel ⊢
  by_cases c3 : c < 65536
  · rw [if_pos c3] at hel ⊢
    subst hel
    have g0 := get_at s A _ C h 0 (by simp)
    have g1 := get_at s A _ C h 1 (by simp)
    have g2 := get_at s A _ C h 2 (by simp)
    simp only [List.getElem_cons_zero, List.getElem_cons_succ, Nat.add_zero] at g0 g1 g2
    rw [ofNat8 _ (by omega)] at g0 g1 g2
    unfold Lib.decodeN
    rw [g0.1, g1.1, g2.1, if_neg (by omega), if_neg (by omega), if_pos (by omega), if_pos (by omega)]
    congr 1
    omega
  · rw [if_neg c3] at hel ⊢
    subst hel
    have g0 := get_at s A _ C h 0 (by simp)
    have g1 := get_at s A _ C h 1 (by simp)
    have g2 := get_at s A _ C h 2 (by simp)
    have g3 := get_at s A _ C h 3 (by simp)
    simp only [List.getElem_cons_zero, List.getElem_cons_succ, Nat.add_zero] at g0 g1 g2 g3
    rw [ofNat8 _ (by omega)] at g0 g1 g2 g3
    unfold Lib.decodeN
    rw [g0.1, g1.1, g2.1, g3.1, if_neg (by omega), if_neg (by omega), if_neg (by omega), if_pos (by omega), if_pos (by omega)]
    congr 1
    omega

/-- The bytes of a list of runes. -/
def wr : List Int → List UInt8
  | [] => []
  | r :: l => (Utf8.encode r).data.toList ++ wr l
theorem wr_append : ∀ a b : List Int, wr (a ++ b) = wr a ++ wr b
  | [], _ => rfl
  | r :: l, b => by simp [wr, wr_append l b]
theorem clen_pos (c : Nat) : 1 ≤ clen c ∧ clen c ≤ 4 := by
  unfold clen
  refine ⟨?_, ?_⟩ <;> (repeat' split) <;> omega
theorem wr_len : ∀ l : List Int, (wr l).length ≤ 4 * l.length
  | [] => by simp [wr]
  | r :: l => by have := wr_len l; have := (clen_pos (code r)).2; simp only [wr, List.length_append, List.length_cons]; rw [enc_len]; omega

/-- The characters of a text of runes: just these. -/
theorem starts_wr (s : ByteArray) : ∀ (l : List Int) (A : List UInt8) (f : Nat), s.data.toList = A ++ wr l → s.size ≤ A.length + f →
    (startsFrom s f A.length).length = l.length ∧ ∀ k p : Nat, (startsFrom s f A.length)[k]? = some p → ∃ r, l[k]? = some r ∧ rn s p = code r ∧ looseB s p = false
  | [], A, f, h, hf => by
    have hz : s.size = A.length := by have hl : s.data.toList.length = s.size := by simp
                                      rw [← hl, h]; simp [wr]
    rw [startsFrom_end s f _ (by omega)]
    exact ⟨rfl, fun k p hk => by simp at hk⟩
  | r :: l, A, f, h, hf => by
    have hl : s.data.toList.length = s.size := by simp
    have hd := dec_enc s A (wr l) r h
    have hcl := clen_pos (code r)
    have hlen := enc_len r
    have hlt : A.length < s.size := by rw [← hl, h]; simp only [wr, List.length_append, hlen]; omega
    obtain ⟨g, rfl⟩ : ∃ g, f = g + 1 := ⟨f - 1, by omega⟩
    have hw : wd s A.length = clen (code r) := by unfold wd; rw [hd]
    have hr : rn s A.length = code r := by unfold rn; rw [hd]
    have hA : (A ++ (Utf8.encode r).data.toList).length = A.length + clen (code r) := by rw [List.length_append, hlen]
    have ih := starts_wr s l (A ++ (Utf8.encode r).data.toList) g (by rw [h]; simp [wr]) (by rw [hA]; omega)
    rw [hA] at ih
    rw [startsFrom_step s g _ hlt, hw]
    refine ⟨by simp [ih.1], fun k p hk => ?_⟩
    cases k with
    | zero =>
      simp at hk; subst hk
      refine ⟨r, rfl, hr, ?_⟩
      unfold looseB
      rw [hr, hw, decide_eq_false_iff_not]
      rintro ⟨e1, e2⟩
      rw [e1] at e2
      simp [clen] at e2
    | succ k =>
      obtain ⟨r', h1, h2⟩ := ih.2 k p (by simpa using hk)
      exact ⟨r', by simpa using h1, h2⟩
end Go.Proofs.YtibhljdiofglfabDoor
