/- The plain mathematics of the characters of a text, over the decoding of the model: for every text. -/
import Derived.Lib.MapLaws
import Derived.Laws.RangeAny
import Derived.Laws.RangeString
import Derived.Lib.Strings
import Derived.Lib.IndexBytes
namespace Go.Proofs.YtngjjcmoekeciaaGreatDoor

/-- The rune of the character that begins at byte p, and how many bytes it has. -/
def rn (s : ByteArray) (p : Nat) : Nat := (Utf8.decode s p).1
def wd (s : ByteArray) (p : Nat) : Nat := (Utf8.decode s p).2
/-- It is a loose byte. -/
def looseB (s : ByteArray) (p : Nat) : Bool := decide (rn s p = 65533 ∧ wd s p = 1)

theorem shape (s : ByteArray) (p : Nat) : Utf8.decode s p = Lib.decodeN (s.size - p) (s.get! p).toNat (s.get! (p + 1)).toNat (s.get! (p + 2)).toNat (s.get! (p + 3)).toNat := Lib.decode_at s p

theorem wd_pos (s : ByteArray) (p : Nat) : 1 ≤ wd s p := by
  unfold wd; rw [shape]
  rcases Lib.decodeN_shape (s.size - p) (s.get! p).toNat (s.get! (p + 1)).toNat (s.get! (p + 2)).toNat (s.get! (p + 3)).toNat with ⟨c, e⟩ | ⟨c1, c2, c3, cv, e⟩ | ⟨c1, c2, c3, c4, cv, cs, e⟩ | ⟨c1, c2, c3, c4, c5, cv, cw, e⟩ | e
  all_goals (rw [e]; dsimp only; omega)
theorem wd_le (s : ByteArray) (p : Nat) (h : p < s.size) : p + wd s p ≤ s.size := by
  unfold wd; rw [shape]
  rcases Lib.decodeN_shape (s.size - p) (s.get! p).toNat (s.get! (p + 1)).toNat (s.get! (p + 2)).toNat (s.get! (p + 3)).toNat with ⟨c, e⟩ | ⟨c1, c2, c3, cv, e⟩ | ⟨c1, c2, c3, c4, cv, cs, e⟩ | ⟨c1, c2, c3, c4, c5, cv, cw, e⟩ | e
  all_goals (rw [e]; dsimp only; omega)
theorem wd_le4 (s : ByteArray) (p : Nat) : wd s p ≤ 4 := by
  unfold wd; rw [shape]
  rcases Lib.decodeN_shape (s.size - p) (s.get! p).toNat (s.get! (p + 1)).toNat (s.get! (p + 2)).toNat (s.get! (p + 3)).toNat with ⟨c, e⟩ | ⟨c1, c2, c3, cv, e⟩ | ⟨c1, c2, c3, c4, cv, cs, e⟩ | ⟨c1, c2, c3, c4, c5, cv, cw, e⟩ | e
  all_goals (rw [e]; dsimp only; omega)
theorem rn_le (s : ByteArray) (p : Nat) : rn s p ≤ 1114111 := by
  have k0 := (s.get! p).toNat_lt
  unfold rn; rw [shape]
  rcases Lib.decodeN_shape (s.size - p) (s.get! p).toNat (s.get! (p + 1)).toNat (s.get! (p + 2)).toNat (s.get! (p + 3)).toNat with ⟨c, e⟩ | ⟨c1, c2, c3, cv, e⟩ | ⟨c1, c2, c3, c4, cv, cs, e⟩ | ⟨c1, c2, c3, c4, c5, cv, cw, e⟩ | e
  all_goals (rw [e]; dsimp only; omega)

/-- What RuneLen answers of the rune of a character that is no loose byte. -/
theorem wd_eq (s : ByteArray) (p : Nat) (h : looseB s p = false) :
    (rn s p ≤ 127 ∧ wd s p = 1) ∨ (128 ≤ rn s p ∧ rn s p ≤ 2047 ∧ wd s p = 2) ∨ (2048 ≤ rn s p ∧ rn s p ≤ 65535 ∧ (rn s p < 55296 ∨ 57344 ≤ rn s p) ∧ wd s p = 3) ∨ (65536 ≤ rn s p ∧ rn s p ≤ 1114111 ∧ wd s p = 4) := by
  have k0 := (s.get! p).toNat_lt
  simp only [looseB, decide_eq_false_iff_not] at h
  unfold rn wd at h ⊢
  rw [shape] at h ⊢
  rcases Lib.decodeN_shape (s.size - p) (s.get! p).toNat (s.get! (p + 1)).toNat (s.get! (p + 2)).toNat (s.get! (p + 3)).toNat with ⟨c, e⟩ | ⟨c1, c2, c3, cv, e⟩ | ⟨c1, c2, c3, c4, cv, cs, e⟩ | ⟨c1, c2, c3, c4, c5, cv, cw, e⟩ | e
  all_goals (rw [e] at h ⊢; dsimp only at h ⊢; omega)

/-- U+FFFD written out: the three bytes stand there just if it is no loose byte. -/
theorem fffd_bytes (s : ByteArray) (p : Nat) (h : rn s p = 65533) : wd s p = 3 ↔ (p + 3 ≤ s.size ∧ (s.get! p).toNat = 239 ∧ (s.get! (p + 1)).toNat = 191 ∧ (s.get! (p + 2)).toNat = 189) := by
  have k0 := (s.get! p).toNat_lt
  have k1 := (s.get! (p + 1)).toNat_lt
  have k2 := (s.get! (p + 2)).toNat_lt
  unfold rn at h; unfold wd
  rw [shape] at h ⊢
  constructor
  · rcases Lib.decodeN_shape (s.size - p) (s.get! p).toNat (s.get! (p + 1)).toNat (s.get! (p + 2)).toNat (s.get! (p + 3)).toNat with ⟨c, e⟩ | ⟨c1, c2, c3, cv, e⟩ | ⟨c1, c2, c3, c4, cv, cs, e⟩ | ⟨c1, c2, c3, c4, c5, cv, cw, e⟩ | e
    all_goals (rw [e] at h ⊢; dsimp only at h ⊢; omega)
  · rintro ⟨h0, e0, e1, e2⟩
    rw [e0, e1, e2]
    have h1 : 1 < s.size - p := by omega
    have h2 : 2 < s.size - p := by omega
    simp [Lib.decodeN, h1, h2]

theorem wd_loose (s : ByteArray) (p : Nat) (h : rn s p = 65533) : wd s p = 1 ∨ wd s p = 3 := by
  have k0 := (s.get! p).toNat_lt
  unfold rn at h; unfold wd
  rw [shape] at h ⊢
  rcases Lib.decodeN_shape (s.size - p) (s.get! p).toNat (s.get! (p + 1)).toNat (s.get! (p + 2)).toNat (s.get! (p + 3)).toNat with ⟨c, e⟩ | ⟨c1, c2, c3, cv, e⟩ | ⟨c1, c2, c3, c4, cv, cs, e⟩ | ⟨c1, c2, c3, c4, c5, cv, cw, e⟩ | e
  all_goals (rw [e] at h ⊢; dsimp only at h ⊢; omega)

theorem get_eq (s : ByteArray) (i : Nat) (h : i < s.size) : s.get! i = s.data.toList[i]'(by simpa using h) := by
  obtain ⟨⟨l⟩⟩ := s
  have h' : i < l.length := h
  simp [ByteArray.get!, h']
/-- What HasPrefix is asked of U+FFFD. -/
def isPre (a b : ByteArray) : Bool := decide (b.size ≤ a.size) && ((a.extract 0 b.size).toList == b.toList)
theorem isPre_fffd (s : ByteArray) (p : Nat) (hp : p < s.size) (h : rn s p = 65533) : isPre (s.extract p s.size) ⟨#[239, 191, 189]⟩ = !looseB s p := by
  have h3 := fffd_bytes s p h
  have hw := wd_loose s p h
  have hL : looseB s p = decide (wd s p = 1) := by simp [looseB, h]
  rw [hL]
  have hz : (⟨#[239, 191, 189]⟩ : ByteArray).size = 3 := rfl
  have hl : (⟨#[239, 191, 189]⟩ : ByteArray).toList = [239, 191, 189] := by rw [Lib.toList_data]
  unfold isPre
  rw [hz, hl, Lib.toList_data, Lib.extract_data, Lib.extract_data]
  have hs : (s.extract p s.size).size = s.size - p := by simp
  rw [hs]
  by_cases hz3 : p + 3 ≤ s.size
  · have g0 := get_eq s p (by omega)
    have g1 := get_eq s (p + 1) (by omega)
    have g2 := get_eq s (p + 2) (by omega)
    rw [g0, g1, g2] at h3
    have hlen : s.data.toList.length = s.size := by simp
    have e : List.take (3 - 0) (List.drop 0 (List.take (s.size - p) (List.drop p s.data.toList))) = [s.data.toList[p]'(by omega), s.data.toList[p + 1]'(by omega), s.data.toList[p + 2]'(by omega)] := by
      rw [List.drop_zero, List.take_take, Nat.min_eq_left (by omega), List.drop_eq_getElem_cons (by omega), List.drop_eq_getElem_cons (by omega), List.drop_eq_getElem_cons (by omega)]
      rfl
    rw [e]
    have d3 : decide (3 ≤ s.size - p) = true := decide_eq_true (by omega)
    rw [d3, Bool.true_and]
    by_cases h1 : wd s p = 1
    · have hn : ¬ wd s p = 3 := by omega
      rw [h3] at hn
      rw [decide_eq_true h1, Bool.not_true, beq_eq_false_iff_ne]
      intro hc
      injection hc with c0 hc
      injection hc with c1 hc
      injection hc with c2 hc
      rw [c0, c1, c2] at hn
      exact hn ⟨hz3, rfl, rfl, rfl⟩
    · have hy : wd s p = 3 := by omega
      obtain ⟨_, e0, e1, e2⟩ := h3.1 hy
      rw [decide_eq_false h1, Bool.not_false, beq_iff_eq]
      rw [show s.data.toList[p]'(by omega) = 239 from UInt8.toNat_inj.1 e0, show s.data.toList[p + 1]'(by omega) = 191 from UInt8.toNat_inj.1 e1, show s.data.toList[p + 2]'(by omega) = 189 from UInt8.toNat_inj.1 e2]
  · have h1 : wd s p = 1 := by
      rcases hw with h1 | h1
      · exact h1
      · exact absurd (h3.1 h1).1 hz3
    rw [decide_eq_true h1, decide_eq_false (by omega)]
    rfl

/-- The bytes at which the characters begin. -/
def startsFrom (s : ByteArray) : Nat → Nat → List Nat
  | 0, _ => []
  | f + 1, p => if p < s.size then p :: startsFrom s f (p + wd s p) else []
def starts (s : ByteArray) : List Nat := startsFrom s s.size 0

theorem startsFrom_end (s : ByteArray) (f p : Nat) (h : ¬ p < s.size) : startsFrom s f p = [] := by
  cases f with
  | zero => rfl
  | succ f => simp [startsFrom, h]
theorem startsFrom_step (s : ByteArray) (f p : Nat) (h : p < s.size) : startsFrom s (f + 1) p = p :: startsFrom s f (p + wd s p) := by simp [startsFrom, h]
/-- The fuel makes no difference where there is enough of it. -/
theorem startsFrom_fuel (s : ByteArray) : ∀ (f g p : Nat), s.size ≤ p + f → s.size ≤ p + g → startsFrom s f p = startsFrom s g p
  | 0, g, p, hf, _ => by rw [startsFrom_end s g p (by omega)]; rfl
  | f + 1, 0, p, _, hg => by rw [startsFrom_end s (f + 1) p (by omega)]; rfl
  | f + 1, g + 1, p, hf, hg => by
    by_cases h : p < s.size
    · have := wd_pos s p
      rw [startsFrom_step s f p h, startsFrom_step s g p h, startsFrom_fuel s f g (p + wd s p) (by omega) (by omega)]
    · rw [startsFrom_end s _ p h, startsFrom_end s _ p h]
theorem startsFrom_lt (s : ByteArray) : ∀ (f p x : Nat), x ∈ startsFrom s f p → p ≤ x ∧ x < s.size
  | 0, p, x, h => by simp [startsFrom] at h
  | f + 1, p, x, h => by
    by_cases hp : p < s.size
    · rw [startsFrom_step s f p hp] at h
      rcases List.mem_cons.1 h with rfl | h
      · exact ⟨Nat.le_refl _, hp⟩
      · have := startsFrom_lt s f (p + wd s p) x h
        omega
    · rw [startsFrom_end s _ p hp] at h; cases h
theorem starts_lt (s : ByteArray) (x : Nat) (h : x ∈ starts s) : x < s.size := (startsFrom_lt s _ _ x h).2
theorem startsFrom_length (s : ByteArray) : ∀ (f p : Nat), p ≤ s.size → (startsFrom s f p).length + p ≤ s.size
  | 0, p, h => by simp [startsFrom]; exact h
  | f + 1, p, h => by
    by_cases hp : p < s.size
    · have h1 := wd_pos s p
      have h2 := wd_le s p hp
      have := startsFrom_length s f (p + wd s p) h2
      rw [startsFrom_step s f p hp]; simp; omega
    · rw [startsFrom_end s _ p hp]; simp; exact h
theorem starts_length (s : ByteArray) : (starts s).length ≤ s.size := by have := startsFrom_length s s.size 0 (Nat.zero_le _); unfold starts; omega

end Go.Proofs.YtngjjcmoekeciaaGreatDoor
