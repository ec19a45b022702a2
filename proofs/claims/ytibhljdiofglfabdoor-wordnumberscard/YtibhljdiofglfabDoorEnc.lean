/- The bytes of a character, and of a rune that is written: plain mathematics. -/
import Derived.Test.YtibhljdiofglfabDoorRun
import Derived.Lib.RuneBytes
import Derived.RowKit
namespace Go.Proofs.YtibhljdiofglfabDoor
open Go.RowKit

theorem enc_same (r : Int) : Lib.encodeRune r = (Utf8.encode r).data.toList := by
  rw [enc_list]
  unfold Lib.encodeRune
  by_cases hb : r < 0 ∨ (55296 ≤ r ∧ r ≤ 57343) ∨ 1114111 < r
  · have hc : code r = 65533 := by
      unfold code Utf8.valid
      rw [if_neg]
      simp only [Bool.or_eq_true, Bool.and_eq_true, decide_eq_true_eq]
      omega
    rw [Lib.encodeRuneZ_bad hb, hc]
    rfl
  · have hc : code r = r.toNat := by
      unfold code Utf8.valid
      rw [if_pos]
      simp only [Bool.or_eq_true, Bool.and_eq_true, decide_eq_true_eq]
      omega
    rw [hc]
    by_cases c1 : r ≤ 127
    · rw [Lib.encodeRuneZ_one (by omega) c1, if_pos (by omega)]
      rfl
    rw [if_neg (by omega)]
    by_cases c2 : r ≤ 2047
    · rw [Lib.encodeRuneZ_two (by omega) c2, if_pos (by omega)]
      simp only [List.map_cons, List.map_nil]
      rw [show (192 + r / 64).toNat = 192 + r.toNat / 64 by omega, show (128 + r % 64).toNat = 128 + r.toNat % 64 by omega]
    rw [if_neg (by omega)]
    by_cases c3 : r ≤ 65535
    · rw [Lib.encodeRuneZ_three (by omega), if_pos (by omega)]
      simp only [List.map_cons, List.map_nil]
      rw [show (224 + r / 4096).toNat = 224 + r.toNat / 4096 by omega, show (128 + r / 64 % 64).toNat = 128 + r.toNat / 64 % 64 by omega, show (128 + r % 64).toNat = 128 + r.toNat % 64 by omega]
    · rw [if_neg (by omega), Lib.encodeRuneZ_four (by omega) (by omega)]
      simp only [List.map_cons, List.map_nil]
      rw [show (240 + r / 262144).toNat = 240 + r.toNat / 262144 by omega, show (128 + r / 4096 % 64).toNat = 128 + r.toNat / 4096 % 64 by omega, show (128 + r / 64 % 64).toNat = 128 + r.toNat / 64 % 64 by omega, show (128 + r % 64).toNat = 128 + r.toNat % 64 by omega]
theorem rn_ok (s : ByteArray) (p : Nat) : rn s p < 55296 ∨ (57344 ≤ rn s p ∧ rn s p ≤ 1114111) := by
  have k0 := (s.get! p).toNat_lt
  unfold rn; rw [shape]
  rcases Lib.decodeN_shape (s.size - p) (s.get! p).toNat (s.get! (p + 1)).toNat (s.get! (p + 2)).toNat (s.get! (p + 3)).toNat with ⟨c, e⟩ | ⟨c1, c2, c3, cv, e⟩ | ⟨c1, c2, c3, c4, cv, cs, e⟩ | ⟨c1, c2, c3, c4, c5, cv, cw, e⟩ | e
  all_goals (rw [e]; dsimp only; omega)
theorem code_rn (s : ByteArray) (p : Nat) : code (rn s p : Int) = rn s p := by
  have := rn_ok s p
  unfold code Utf8.valid
  rw [if_pos]
  · rfl
  · simp only [Bool.or_eq_true, Bool.and_eq_true, decide_eq_true_eq]
    omega
theorem char_bytes (s : ByteArray) (p : Nat) (hp : p < s.size) (h : looseB s p = false) : (Utf8.encode (rn s p : Int)).data.toList = (s.data.toList.drop p).take (wd s p) := by
  have hl : s.data.toList.length = s.size := by simp
  have gd : ∀ i, ((s.data.toList.drop p).getD i 0).toNat = (s.get! (p + i)).toNat := by
    intro i
    by_cases hi : p + i < s.size
    · rw [get_eq s _ hi, List.getD_eq_getElem?_getD, List.getElem?_drop, List.getElem?_eq_getElem (by omega)]
      rfl
    · rw [List.getD_eq_getElem?_getD, List.getElem?_eq_none (by rw [List.length_drop]; omega)]
      obtain ⟨⟨l⟩⟩ := s
      have h' : l.length ≤ p + i := Nat.le_of_not_lt hi
      have h2 : (⟨⟨l⟩⟩ : ByteArray).get! (p + i) = default := by
        show (⟨l⟩ : Array UInt8)[p + i]! = default
        rw [getElem!_neg (⟨l⟩ : Array UInt8) (p + i) (Nat.not_lt.2 h')]
      rw [h2]
      rfl
  have hd : Lib.decodeL (s.data.toList.drop p) = Utf8.decode s p := by
    have g0 := gd 0
    rw [Nat.add_zero] at g0
    rw [Lib.decodeL_N, shape, List.length_drop, hl, g0, gd 1, gd 2, gd 3]
  have he := Lib.encode_decode (s.data.toList.drop p) (fun e => by have : (s.data.toList.drop p).length = 0 := by rw [e]; rfl
                                                                   rw [List.length_drop] at this; omega) (by
    rw [hd]
    unfold looseB at h
    rw [decide_eq_false_iff_not] at h
    exact h)
  rw [hd] at he
  rw [← enc_same]
  exact he
end Go.Proofs.YtibhljdiofglfabDoor
