/- What an escape says, reckoned over its bytes: plain mathematics. -/
import Derived.Test.YtibhljdiofglfabDoorUnq
import Derived.Test.YtibhljdiofglfabDoorEnc
namespace Go.Proofs.YtibhljdiofglfabDoor
open Go.RowKit Go.Shelf

theorem byt_lt (s : ByteArray) (i : Nat) : byt s i < 256 := by
  unfold byt
  split
  · exact (s[i]).toNat_lt
  · omega
theorem byt_in {s : ByteArray} {i : Nat} (h : byt s i ≠ 0) : i < s.size := by
  unfold byt at h
  split at h
  · assumption
  · exact absurd rfl h
theorem byt_get {s : ByteArray} {i : Nat} (h : i < s.size) : byt s i = (s[i]'h).toNat := by unfold byt; rw [dif_pos h]
theorem byt_out {s : ByteArray} {i : Nat} (h : ¬ i < s.size) : byt s i = 0 := by unfold byt; rw [dif_neg h]
theorem byt_extract (s : ByteArray) (a k : Nat) (ha : a ≤ s.size) : byt (s.extract a s.size) k = byt s (a + k) := by
  have hsz : (s.extract a s.size).size = s.size - a := by simp
  by_cases h : a + k < s.size
  · rw [byt_get (s := s.extract a s.size) (by omega), byt_get h]
    congr 1
    exact ByteArray.getElem_extract ..
  · rw [byt_out h, byt_out (by omega)]

def okR (c : Nat) : Bool := decide (c < 55296 ∨ (57344 ≤ c ∧ c ≤ 1114111))
/-- The closing bracket of a number, behind 6 - r digits. -/
def closeN (b : Nat → Nat) (r p c : Nat) : Option (Nat × Nat) := if r ≠ 6 ∧ b p = 125 ∧ okR c = true then some (c, p + 1) else none
/-- A number's digits. -/
def num (b : Nat → Nat) : Nat → Nat → Nat → Option (Nat × Nat)
  | 0, p, c => closeN b 0 p c
  | r + 1, p, c => if 0 ≤ hexV (b p) then num b r (p + 1) (c * 16 + (hexV (b p)).toNat) else closeN b (r + 1) p c
/-- An escape: the bytes that it says, its length. -/
def esc (b : Nat → Nat) : Option (List UInt8 × Nat) :=
  if b 1 = 34 ∨ b 1 = 92 then some ([UInt8.ofNat (b 1)], 2)
  else if b 1 = 110 then some ([10], 2)
  else if b 1 = 116 then some ([9], 2)
  else if b 1 = 114 then some ([13], 2)
  else if b 1 = 120 then (if 0 ≤ hexV (b 2) ∧ 0 ≤ hexV (b 3) then some ([UInt8.ofNat ((hexV (b 2)).toNat * 16 + (hexV (b 3)).toNat)], 4) else none)
  else if b 1 = 117 then (if b 2 = 123 then (num b 6 3 0).map (fun x => ((Utf8.encode (x.1 : Int)).data.toList, x.2)) else none)
  else none

theorem hexV_lt (b : Nat) : hexV b < 16 ∧ -1 ≤ hexV b := by
  unfold hexV
  (repeat' split) <;> omega
theorem hexV_ascii {b : Nat} (h : 0 ≤ hexV b) : 0 < b ∧ b < 128 ∧ b ≠ 125 := by
  unfold hexV at h
  (repeat' split at h) <;> omega

theorem num_ok (b : Nat → Nat) : ∀ (r p c : Nat) (x : Nat × Nat), r ≤ 6 → num b r p c = some x → p + 1 ≤ x.2 ∧ x.2 ≤ p + r + 1 ∧ okR x.1 = true ∧ ∀ k, p ≤ k → k < x.2 → 0 < b k ∧ b k < 128
  | 0, p, c, x, _, h => by
    unfold num closeN at h
    split at h
    · rename_i hc
      cases h
      refine ⟨Nat.le_refl _, by simp, hc.2.2, fun k h1 h2 => ?_⟩
      dsimp only at h2
      obtain rfl : k = p := by omega
      omega
    · cases h
  | r + 1, p, c, x, hr, h => by
    unfold num at h
    split at h
    · rename_i hd
      obtain ⟨h1, h2, h3, h4⟩ := num_ok b r (p + 1) _ x (by omega) h
      refine ⟨by omega, by omega, h3, fun k k1 k2 => ?_⟩
      by_cases hk : k = p
      · subst hk
        have := hexV_ascii hd
        omega
      · exact h4 k (by omega) k2
    · unfold closeN at h
      split at h
      · rename_i hc
        cases h
        refine ⟨Nat.le_refl _, by dsimp only; omega, hc.2.2, fun k h1 h2 => ?_⟩
        dsimp only at h2
        obtain rfl : k = p := by omega
        omega
      · cases h

theorem esc_ok (b : Nat → Nat) (l : List UInt8) (n : Nat) (h : esc b = some (l, n)) : 2 ≤ n ∧ n ≤ 10 ∧ l.length ≤ 4 ∧ ∀ k, 1 ≤ k → k < n → 0 < b k ∧ b k < 128 := by
  unfold esc at h
  split at h
  · cases h
    refine ⟨by omega, by omega, by simp, fun k k1 k2 => ?_⟩
    obtain rfl : k = 1 := by omega
    omega
  split at h
  · cases h
    refine ⟨by omega, by omega, by simp, fun k k1 k2 => ?_⟩
    obtain rfl : k = 1 := by omega
    omega
  split at h
  · cases h
    refine ⟨by omega, by omega, by simp, fun k k1 k2 => ?_⟩
    obtain rfl : k = 1 := by omega
    omega
  split at h
  · cases h
    refine ⟨by omega, by omega, by simp, fun k k1 k2 => ?_⟩
    obtain rfl : k = 1 := by omega
    omega
  split at h
  · split at h
    · rename_i hx hd
      cases h
      have h2 := hexV_ascii hd.1
      have h3 := hexV_ascii hd.2
      refine ⟨by omega, by omega, by simp, fun k k1 k2 => ?_⟩
      obtain rfl | rfl | rfl : k = 1 ∨ k = 2 ∨ k = 3 := by omega
      all_goals omega
    · cases h
  split at h
  · split at h
    · rename_i hu hb
      rw [Option.map_eq_some_iff] at h
      obtain ⟨x, hx, he⟩ := h
      simp only [Prod.mk.injEq] at he
      obtain ⟨e1, e2⟩ := he
      subst e2
      obtain ⟨h1, h2, h3, h4⟩ := num_ok b 6 3 0 x (by omega) hx
      refine ⟨by omega, by omega, ?_, fun k k1 k2 => ?_⟩
      · rw [← e1, enc_len]
        exact (clen_pos _).2
      · by_cases hk1 : k = 1
        · subst hk1; omega
        by_cases hk2 : k = 2
        · subst hk2; omega
        exact h4 k (by omega) k2
    · cases h
  · cases h

theorem esc_congr {b b' : Nat → Nat} (h : ∀ k, b k = b' k) : esc b = esc b' := by rw [funext h]
theorem esc_extract (s : ByteArray) (a : Nat) (ha : a ≤ s.size) : esc (byt (s.extract a s.size)) = esc (fun k => byt s (a + k)) := esc_congr (fun k => byt_extract s a k ha)

/-- What a quoted text says from the place p on, behind what was said already: the bytes, the place, the error. -/
def lead (s : ByteArray) : Nat → Nat → List UInt8 → List UInt8 × Nat × Nat
  | 0, _, _ => ([], s.size, 11)
  | f + 1, p, acc =>
    if ¬ p < s.size then ([], s.size, 11)
    else if byt s p = 34 then (acc, p + 1, 0)
    else if byt s p = 92 then (match esc (fun k => byt s (p + k)) with | none => ([], p, 12) | some x => lead s f (p + x.2) (acc ++ x.1))
    else if ctl (rn s p : Int) = true ∨ looseB s p = true then ([], p, 10)
    else lead s f (p + wd s p) (acc ++ (Utf8.encode (rn s p : Int)).data.toList)

theorem lead_end (s : ByteArray) (f p : Nat) (acc : List UInt8) (h : ¬ p < s.size) : lead s f p acc = ([], s.size, 11) := by
  cases f with
  | zero => rfl
  | succ f => rw [lead, if_pos h]
theorem lead_quote (s : ByteArray) (f p : Nat) (acc : List UInt8) (h : p < s.size) (hq : byt s p = 34) : lead s (f + 1) p acc = (acc, p + 1, 0) := by
  rw [lead, if_neg (by omega), if_pos hq]
theorem lead_none (s : ByteArray) (f p : Nat) (acc : List UInt8) (h : p < s.size) (hq : byt s p = 92) (he : esc (fun k => byt s (p + k)) = none) : lead s (f + 1) p acc = ([], p, 12) := by
  rw [lead, if_neg (by omega), if_neg (by omega), if_pos hq, he]
theorem lead_some (s : ByteArray) (f p : Nat) (acc l : List UInt8) (n : Nat) (h : p < s.size) (hq : byt s p = 92) (he : esc (fun k => byt s (p + k)) = some (l, n)) : lead s (f + 1) p acc = lead s f (p + n) (acc ++ l) := by
  rw [lead, if_neg (by omega), if_neg (by omega), if_pos hq, he]
theorem lead_bad (s : ByteArray) (f p : Nat) (acc : List UInt8) (h : p < s.size) (h1 : byt s p ≠ 34) (h2 : byt s p ≠ 92) (hb : ctl (rn s p : Int) = true ∨ looseB s p = true) : lead s (f + 1) p acc = ([], p, 10) := by
  rw [lead, if_neg (by omega), if_neg h1, if_neg h2, if_pos hb]
theorem lead_char (s : ByteArray) (f p : Nat) (acc : List UInt8) (h : p < s.size) (h1 : byt s p ≠ 34) (h2 : byt s p ≠ 92) (hb : ¬ (ctl (rn s p : Int) = true ∨ looseB s p = true)) : lead s (f + 1) p acc = lead s f (p + wd s p) (acc ++ (Utf8.encode (rn s p : Int)).data.toList) := by
  rw [lead, if_neg (by omega), if_neg h1, if_neg h2, if_neg hb]

/-- A byte below 128 is a character of its own. -/
theorem one_byte (s : ByteArray) (p : Nat) (h : p < s.size) (hb : byt s p < 128) : rn s p = byt s p ∧ wd s p = 1 := by
  have e : (s.get! p).toNat = byt s p := by rw [byt_get h, get_eq s p h]; rfl
  have : Utf8.decode s p = (byt s p, 1) := by
    rw [shape, e]
    unfold Lib.decodeN
    rw [if_pos hb]
  unfold rn wd
  rw [this]
  exact ⟨rfl, rfl⟩
theorem more_byte (s : ByteArray) (p : Nat) (h : p < s.size) (hb : 128 ≤ byt s p) : 128 ≤ rn s p := by
  have e : (s.get! p).toNat = byt s p := by rw [byt_get h, get_eq s p h]; rfl
  have := byt_lt s p
  unfold rn
  rw [shape, e]
  rcases Lib.decodeN_shape (s.size - p) (byt s p) (s.get! (p + 1)).toNat (s.get! (p + 2)).toNat (s.get! (p + 3)).toNat with ⟨c, e⟩ | ⟨c1, c2, c3, cv, e⟩ | ⟨c1, c2, c3, c4, cv, cs, e⟩ | ⟨c1, c2, c3, c4, c5, cv, cw, e⟩ | e
  all_goals (rw [e]; dsimp only; omega)
end Go.Proofs.YtibhljdiofglfabDoor
