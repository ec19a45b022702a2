/- The small words that glyph.Unquote leans on: a byte of a text, what a hexadecimal digit is worth, a control. -/
import Derived.Test.YtngjjcmoekeciaaGreatDoorBas
import Derived.Test.YtngjjcmoekeciaaGreatDoorChr
import Derived.Lib.RuneBytes
import Derived.RowKit
namespace Go.Proofs.YtngjjcmoekeciaaGreatDoor
open Go.RowKit Go.Shelf

/-- A byte of a text; 0 behind its end. -/
def byt (s : ByteArray) (i : Nat) : Nat := if h : i < s.size then (s[i]'h).toNat else 0
/-- What a hexadecimal digit is worth. -/
def hexV (b : Nat) : Int := if 48 ≤ b ∧ b ≤ 57 then (b : Int) - 48 else if 97 ≤ b ∧ b ≤ 102 then (b : Int) - 87 else if 65 ≤ b ∧ b ≤ 70 then (b : Int) - 55 else -1

set_option maxHeartbeats 400000 in
theorem byteAt_any (s : ByteArray) (i : Nat) (w : World) :
    Calls Tryz.prog 123 #[.string s, .int .i64 i] w fun e w' => e = .returned (.int .u8 (byt s i)) ∧ w' = w := by
  by_cases h : i < s.size
  · have hb : byt s i = (s[i]'h).toNat := by unfold byt; rw [dif_pos h]
    have HB : Hid (byt s i = (s[i]'h).toNat) := hb
    clear hb
    go_enter Tryz.func123, Tryz.ntmps123
    go_wp2
    go_ret
    rw [HB.out]
    exact ⟨rfl, rfl⟩
  · have HB : Hid (byt s i = 0) := by show byt s i = 0; unfold byt; rw [dif_neg h]
    go_enter Tryz.func123, Tryz.ntmps123
    go_wp2
    go_ret
    rw [HB.out]
    exact ⟨rfl, rfl⟩

theorem ret_i32 {a b : Int} (h : a = b) : Ending.returned (.int .i32 a) = .returned (.int .i32 b) := by rw [h]
set_option maxHeartbeats 400000 in
theorem hexValue_any (b : Nat) (hb : b < 256) (w : World) :
    Calls Tryz.prog 124 #[.int .u8 b] w fun e w' => e = .returned (.int .i32 (hexV b)) ∧ w' = w := by
  go_enter Tryz.func124, Tryz.ntmps124
  go_wp2
  all_goals
    go_ret
    refine ⟨ret_i32 ?_, rfl⟩
    unfold hexV
    (repeat' split) <;> omega

/-- A control. -/
def ctl (r : Int) : Bool := decide (r < 32 ∨ r = 127)
set_option maxHeartbeats 400000 in
theorem isControl_any (r : Int) (w : World) :
    Calls Tryz.prog 113 #[.int .i32 r] w fun e w' => e = .returned (.bool (ctl r)) ∧ w' = w := by
  by_cases h1 : r < 32
  · have HB : Hid (ctl r = true) := by show ctl r = true; simp [ctl, h1]
    go_enter Tryz.func113, Tryz.ntmps113
    go_wp2
    go_ret
    rw [HB.out]
    exact ⟨rfl, rfl⟩
  · by_cases h2 : r = 127
    · subst h2
      have HB : Hid (ctl 127 = true) := rfl
      go_enter Tryz.func113, Tryz.ntmps113
      go_wp2
      go_ret
      exact ⟨rfl, rfl⟩
    · have HB : Hid (ctl r = false) := by show ctl r = false; simp [ctl, h1, h2]
      have hq : (r == 127) = false := beq_eq_false_iff_ne.2 h2
      go_enter Tryz.func113, Tryz.ntmps113
      go_wp2
      go_ret
      rw [HB.out]
      first | exact ⟨rfl, rfl⟩ | exact ⟨by simp [hq], rfl⟩
end Go.Proofs.YtngjjcmoekeciaaGreatDoor
namespace Go.Proofs.YtngjjcmoekeciaaGreatDoor

/-- The rune that is written for r. -/
def code (r : Int) : Nat := if Utf8.valid r then r.toNat else 65533
theorem code_ok (r : Int) : code r < 55296 ∨ (57344 ≤ code r ∧ code r ≤ 1114111) := by
  unfold code
  split
  · rename_i h
    simp only [Utf8.valid, Bool.or_eq_true, Bool.and_eq_true, decide_eq_true_eq] at h
    omega
  · right; omega
/-- How many bytes it has. -/
def clen (c : Nat) : Nat := if c < 128 then 1 else if c < 2048 then 2 else if c < 65536 then 3 else 4
theorem get_at (s : ByteArray) (A E C : List UInt8) (h : s.data.toList = A ++ (E ++ C)) (j : Nat) (hj : j < E.length) : (s.get! (A.length + j)).toNat = (E[j]).toNat ∧ A.length + j < s.size := by
  have hl : s.data.toList.length = s.size := by simp
  have hlt : A.length + j < s.size := by rw [← hl, h]; simp; omega
  refine ⟨?_, hlt⟩
  rw [get_eq s _ hlt]
  have : s.data.toList[A.length + j]'(by simpa using hlt) = E[j] := by
    simp only [h]
    rw [List.getElem_append_right (by omega)]
    simp only [Nat.add_sub_cancel_left]
    rw [List.getElem_append_left hj]
  rw [this]
theorem enc_list (r : Int) : (Utf8.encode r).data.toList = if code r < 128 then [UInt8.ofNat (code r)] else if code r < 2048 then [UInt8.ofNat (192 + code r / 64), UInt8.ofNat (128 + code r % 64)]
    else if code r < 65536 then [UInt8.ofNat (224 + code r / 4096), UInt8.ofNat (128 + code r / 64 % 64), UInt8.ofNat (128 + code r % 64)] else [UInt8.ofNat (240 + code r / 262144), UInt8.ofNat (128 + code r / 4096 % 64), UInt8.ofNat (128 + code r / 64 % 64), UInt8.ofNat (128 + code r % 64)] := by
  have hc : (if Utf8.valid r then r.toNat else Utf8.runeError) = code r := by unfold code Utf8.runeError; rfl
  unfold Utf8.encode
  simp only [hc]
  split
  · rfl
  · split
    · rfl
    · split <;> rfl
theorem enc_len (r : Int) : (Utf8.encode r).data.toList.length = clen (code r) := by
  rw [enc_list]
  unfold clen
  repeat' split
  all_goals rfl
theorem ofNat8 (n : Nat) (h : n < 256) : (UInt8.ofNat n).toNat = n := by simp; omega

/-- What was written is read. -/
theorem dec_enc (s : ByteArray) (A C : List UInt8) (r : Int) (h : s.data.toList = A ++ ((Utf8.encode r).data.toList ++ C)) : Utf8.decode s A.length = (code r, clen (code r)) := by
  have hok := code_ok r
  have hel := enc_list r
  generalize (Utf8.encode r).data.toList = E at *
  generalize code r = c at *
  rw [shape]
  unfold clen
  by_cases c1 : c < 128
  · rw [if_pos c1] at hel ⊢
    subst hel
    have g0 := get_at s A _ C h 0 (by simp)
    simp only [List.getElem_cons_zero, Nat.add_zero] at g0
    rw [ofNat8 _ (by omega)] at g0
    unfold Lib.decodeN
    rw [g0.1, if_pos c1]
  rw [if_neg c1] at hel ⊢
  by_cases c2 : c < 2048
  · rw [if_pos c2] at hel ⊢
    subst hel
    have g0 := get_at s A _ C h 0 (by simp)
    have g1 := get_at s A _ C h 1 (by simp)
    simp only [List.getElem_cons_zero, List.getElem_cons_succ, Nat.add_zero] at g0 g1
    rw [ofNat8 _ (by omega)] at g0 g1
    unfold Lib.decodeN
    rw [g0.1, g1.1, if_neg (by omega), if_pos (by omega), if_pos (by omega)]
    congr 1
    omega
  rw [if_neg c2] at hel ⊢
  by_cases c3 : c < 65536
  · rw [if_pos c3] at hel ⊢
    subst hel
    have g0 := get_at s A _ C h 0 (by simp)
    have g1 := get_at s A _ C h 1 (by simp)
    have g2 := get_at s A _ C h 2 (by simp)
    simp only [List.getElem_cons_zero, List.getElem_cons_succ, Nat.add_zero] at g0 g1 g2
    rw [ofNat8 _ (by omega)] at g0 g1 g2
    unfold Lib.decodeN
    rw [g0.1, g1.1, g2.1, if_neg (by omega), if_neg (by omega), if_pos (by omega), if_pos (by omega)]
    congr 1
    omega
  · rw [if_neg c3] at hel ⊢
    subst hel
    have g0 := get_at s A _ C h 0 (by simp)
    have g1 := get_at s A _ C h 1 (by simp)
    have g2 := get_at s A _ C h 2 (by simp)
    have g3 := get_at s A _ C h 3 (by simp)
    simp only [List.getElem_cons_zero, List.getElem_cons_succ, Nat.add_zero] at g0 g1 g2 g3
    rw [ofNat8 _ (by omega)] at g0 g1 g2 g3
    unfold Lib.decodeN
    rw [g0.1, g1.1, g2.1, g3.1, if_neg (by omega), if_neg (by omega), if_neg (by omega), if_pos (by omega), if_pos (by omega)]
    congr 1
    omega

/-- The bytes of a list of runes. -/
def wr : List Int → List UInt8
  | [] => []
  | r :: l => (Utf8.encode r).data.toList ++ wr l
theorem wr_append : ∀ a b : List Int, wr (a ++ b) = wr a ++ wr b
  | [], _ => rfl
  | r :: l, b => by simp [wr, wr_append l b]
theorem clen_pos (c : Nat) : 1 ≤ clen c ∧ clen c ≤ 4 := by
  unfold clen
  refine ⟨?_, ?_⟩ <;> (repeat' split) <;> omega
theorem wr_len : ∀ l : List Int, (wr l).length ≤ 4 * l.length
  | [] => by simp [wr]
  | r :: l => by have := wr_len l; have := (clen_pos (code r)).2; simp only [wr, List.length_append, List.length_cons]; rw [enc_len]; omega

/-- The characters of a text of runes: just these. -/
theorem starts_wr (s : ByteArray) : ∀ (l : List Int) (A : List UInt8) (f : Nat), s.data.toList = A ++ wr l → s.size ≤ A.length + f →
    (startsFrom s f A.length).length = l.length ∧ ∀ k p : Nat, (startsFrom s f A.length)[k]? = some p → ∃ r, l[k]? = some r ∧ rn s p = code r ∧ looseB s p = false
  | [], A, f, h, hf => by
    have hz : s.size = A.length := by have hl : s.data.toList.length = s.size := by simp
                                      rw [← hl, h]; simp [wr]
    rw [startsFrom_end s f _ (by omega)]
    exact ⟨rfl, fun k p hk => by simp at hk⟩
  | r :: l, A, f, h, hf => by
    have hl : s.data.toList.length = s.size := by simp
    have hd := dec_enc s A (wr l) r h
    have hcl := clen_pos (code r)
    have hlen := enc_len r
    have hlt : A.length < s.size := by rw [← hl, h]; simp only [wr, List.length_append, hlen]; omega
    obtain ⟨g, rfl⟩ : ∃ g, f = g + 1 := ⟨f - 1, by omega⟩
    have hw : wd s A.length = clen (code r) := by unfold wd; rw [hd]
    have hr : rn s A.length = code r := by unfold rn; rw [hd]
    have hA : (A ++ (Utf8.encode r).data.toList).length = A.length + clen (code r) := by rw [List.length_append, hlen]
    have ih := starts_wr s l (A ++ (Utf8.encode r).data.toList) g (by rw [h]; simp [wr]) (by rw [hA]; omega)
    rw [hA] at ih
    rw [startsFrom_step s g _ hlt, hw]
    refine ⟨by simp [ih.1], fun k p hk => ?_⟩
    cases k with
    | zero =>
      simp at hk; subst hk
      refine ⟨r, rfl, hr, ?_⟩
      unfold looseB
      rw [hr, hw, decide_eq_false_iff_not]
      rintro ⟨e1, e2⟩
      rw [e1] at e2
      simp [clen] at e2
    | succ k =>
      obtain ⟨r', h1, h2⟩ := ih.2 k p (by simpa using hk)
      exact ⟨r', by simpa using h1, h2⟩
end Go.Proofs.YtngjjcmoekeciaaGreatDoor
namespace Go.Proofs.YtngjjcmoekeciaaGreatDoor
open Go.RowKit

theorem enc_same (r : Int) : Lib.encodeRune r = (Utf8.encode r).data.toList := by
  rw [enc_list]
  unfold Lib.encodeRune
  by_cases hb : r < 0 ∨ (55296 ≤ r ∧ r ≤ 57343) ∨ 1114111 < r
  · have hc : code r = 65533 := by
      unfold code Utf8.valid
      rw [if_neg]
      simp only [Bool.or_eq_true, Bool.and_eq_true, decide_eq_true_eq]
      omega
    rw [Lib.encodeRuneZ_bad hb, hc]
    rfl
  · have hc : code r = r.toNat := by
      unfold code Utf8.valid
      rw [if_pos]
      simp only [Bool.or_eq_true, Bool.and_eq_true, decide_eq_true_eq]
      omega
    rw [hc]
    by_cases c1 : r ≤ 127
    · rw [Lib.encodeRuneZ_one (by omega) c1, if_pos (by omega)]
      rfl
    rw [if_neg (by omega)]
    by_cases c2 : r ≤ 2047
    · rw [Lib.encodeRuneZ_two (by omega) c2, if_pos (by omega)]
      simp only [List.map_cons, List.map_nil]
      rw [show (192 + r / 64).toNat = 192 + r.toNat / 64 by omega, show (128 + r % 64).toNat = 128 + r.toNat % 64 by omega]
    rw [if_neg (by omega)]
    by_cases c3 : r ≤ 65535
    · rw [Lib.encodeRuneZ_three (by omega), if_pos (by omega)]
      simp only [List.map_cons, List.map_nil]
      rw [show (224 + r / 4096).toNat = 224 + r.toNat / 4096 by omega, show (128 + r / 64 % 64).toNat = 128 + r.toNat / 64 % 64 by omega, show (128 + r % 64).toNat = 128 + r.toNat % 64 by omega]
    · rw [if_neg (by omega), Lib.encodeRuneZ_four (by omega) (by omega)]
      simp only [List.map_cons, List.map_nil]
      rw [show (240 + r / 262144).toNat = 240 + r.toNat / 262144 by omega, show (128 + r / 4096 % 64).toNat = 128 + r.toNat / 4096 % 64 by omega, show (128 + r / 64 % 64).toNat = 128 + r.toNat / 64 % 64 by omega, show (128 + r % 64).toNat = 128 + r.toNat % 64 by omega]
theorem rn_ok (s : ByteArray) (p : Nat) : rn s p < 55296 ∨ (57344 ≤ rn s p ∧ rn s p ≤ 1114111) := by
  have k0 := (s.get! p).toNat_lt
  unfold rn; rw [shape]
  rcases Lib.decodeN_shape (s.size - p) (s.get! p).toNat (s.get! (p + 1)).toNat (s.get! (p + 2)).toNat (s.get! (p + 3)).toNat with ⟨c, e⟩ | ⟨c1, c2, c3, cv, e⟩ | ⟨c1, c2, c3, c4, cv, cs, e⟩ | ⟨c1, c2, c3, c4, c5, cv, cw, e⟩ | e
  all_goals (rw [e]; dsimp only; omega)
theorem code_rn (s : ByteArray) (p : Nat) : code (rn s p : Int) = rn s p := by
  have := rn_ok s p
  unfold code Utf8.valid
  rw [if_pos]
  · rfl
  · simp only [Bool.or_eq_true, Bool.and_eq_true, decide_eq_true_eq]
    omega
theorem char_bytes (s : ByteArray) (p : Nat) (hp : p < s.size) (h : looseB s p = false) : (Utf8.encode (rn s p : Int)).data.toList = (s.data.toList.drop p).take (wd s p) := by
  have hl : s.data.toList.length = s.size := by simp
  have gd : ∀ i, ((s.data.toList.drop p).getD i 0).toNat = (s.get! (p + i)).toNat := by
    intro i
    by_cases hi : p + i < s.size
    · rw [get_eq s _ hi, List.getD_eq_getElem?_getD, List.getElem?_drop, List.getElem?_eq_getElem (by omega)]
      rfl
    · rw [List.getD_eq_getElem?_getD, List.getElem?_eq_none (by rw [List.length_drop]; omega)]
      obtain ⟨⟨l⟩⟩ := s
      have h' : l.length ≤ p + i := Nat.le_of_not_lt hi
      have h2 : (⟨⟨l⟩⟩ : ByteArray).get! (p + i) = default := by
        show (⟨l⟩ : Array UInt8)[p + i]! = default
        rw [getElem!_neg (⟨l⟩ : Array UInt8) (p + i) (Nat.not_lt.2 h')]
      rw [h2]
      rfl
  have hd : Lib.decodeL (s.data.toList.drop p) = Utf8.decode s p := by
    have g0 := gd 0
    rw [Nat.add_zero] at g0
    rw [Lib.decodeL_N, shape, List.length_drop, hl, g0, gd 1, gd 2, gd 3]
  have he := Lib.encode_decode (s.data.toList.drop p) (fun e => by have : (s.data.toList.drop p).length = 0 := by rw [e]; rfl
                                                                   rw [List.length_drop] at this; omega) (by
    rw [hd]
    unfold looseB at h
    rw [decide_eq_false_iff_not] at h
    exact h)
  rw [hd] at he
  rw [← enc_same]
  exact he
end Go.Proofs.YtngjjcmoekeciaaGreatDoor
