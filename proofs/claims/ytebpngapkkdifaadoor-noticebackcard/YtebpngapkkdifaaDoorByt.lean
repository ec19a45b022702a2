/- The bytes of a text. -/
import Derived.Test.YtebpngapkkdifaaDoorEnc
import Derived.Below
namespace Go.Proofs.YtebpngapkkdifaaDoor
open Go.RowKit

/-- The byte at a place; nought behind the end. -/
def byt (s : ByteArray) (i : Nat) : Nat := if h : i < s.size then (s[i]'h).toNat else 0
theorem byt_lt (s : ByteArray) (i : Nat) : byt s i < 256 := by
  unfold byt
  split
  · exact (s[i]).toNat_lt
  · omega
theorem byt_in {s : ByteArray} {i : Nat} (h : byt s i ≠ 0) : i < s.size := by
  unfold byt at h
  split at h
  · assumption
  · exact absurd rfl h
theorem byt_get {s : ByteArray} {i : Nat} (h : i < s.size) : byt s i = (s[i]'h).toNat := by unfold byt; rw [dif_pos h]
theorem byt_out {s : ByteArray} {i : Nat} (h : ¬ i < s.size) : byt s i = 0 := by unfold byt; rw [dif_neg h]
theorem byt_extract (s : ByteArray) (a k : Nat) (ha : a ≤ s.size) : byt (s.extract a s.size) k = byt s (a + k) := by
  have hsz : (s.extract a s.size).size = s.size - a := by simp
  by_cases h : a + k < s.size
  · rw [byt_get (s := s.extract a s.size) (by omega), byt_get h]
    congr 1
    exact ByteArray.getElem_extract ..
  · rw [byt_out h, byt_out (by omega)]

theorem one_byte (s : ByteArray) (p : Nat) (h : p < s.size) (hb : byt s p < 128) : rn s p = byt s p ∧ wdt s p = 1 := by
  have e : (s.get! p).toNat = byt s p := by rw [byt_get h, get_eq s p h]; rfl
  have : Utf8.decode s p = (byt s p, 1) := by
    rw [shape, e]
    unfold Lib.decodeN
    rw [if_pos hb]
  unfold rn wdt
  rw [this]
  exact ⟨rfl, rfl⟩
theorem more_byte (s : ByteArray) (p : Nat) (h : p < s.size) (hb : 128 ≤ byt s p) : 128 ≤ rn s p := by
  have e : (s.get! p).toNat = byt s p := by rw [byt_get h, get_eq s p h]; rfl
  have := byt_lt s p
  unfold rn
  rw [shape, e]
  rcases Lib.decodeN_shape (s.size - p) (byt s p) (s.get! (p + 1)).toNat (s.get! (p + 2)).toNat (s.get! (p + 3)).toNat with ⟨c, e⟩ | ⟨c1, c2, c3, cv, e⟩ | ⟨c1, c2, c3, c4, cv, cs, e⟩ | ⟨c1, c2, c3, c4, c5, cv, cw, e⟩ | e
  all_goals (rw [e]; dsimp only; omega)
end Go.Proofs.YtebpngapkkdifaaDoor
