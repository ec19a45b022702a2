import Derived.Test.YtmahamdmapbilaaGreatDoorJwJ1
import Derived.Lib.RuneBytes
import Derived.RowKit
import Derived.Below
import Derived.Test.YtmahamdmapbilaaGreatDoorJwJ0
set_option maxHeartbeats 40000000
set_option maxRecDepth 100000
set_option linter.unusedVariables false
namespace Go.Proofs.YtmahamdmapbilaaGreatDoor
open Go.RowKit
theorem enc_same (r : Int) : Lib.encodeRune r = (Utf8.encode r).data.toList := by
 rw [enc_list]
 unfold Lib.encodeRune
 by_cases hb : r < 0 ∨ (55296 ≤ r ∧ r ≤ 57343) ∨ 1114111 < r
 · have hc : code r = 65533 := by
     unfold code Utf8.valid
     rw [if_neg]
     simp only [Bool.or_eq_true, Bool.and_eq_true, decide_eq_true_eq]
     omega
   rw [Lib.encodeRuneZ_bad hb, hc]
   rfl
 · have hc : code r = r.toNat := by
     unfold code Utf8.valid
     rw [if_pos]
     simp only [Bool.or_eq_true, Bool.and_eq_true, decide_eq_true_eq]
     omega
   rw [hc]
   by_cases c1 : r ≤ 127
   · rw [Lib.encodeRuneZ_one (by omega) c1, if_pos (by omega)]
     rfl
   rw [if_neg (by omega)]
   by_cases c2 : r ≤ 2047
   · rw [Lib.encodeRuneZ_two (by omega) c2, if_pos (by omega)]
     simp only [List.map_cons, List.map_nil]
     rw [show (192 + r / 64).toNat = 192 + r.toNat / 64 by omega, show (128 + r % 64).toNat = 128 + r.toNat % 64 by omega]
   rw [if_neg (by omega)]
   by_cases c3 : r ≤ 65535
   · rw [Lib.encodeRuneZ_three (by omega), if_pos (by omega)]
     simp only [List.map_cons, List.map_nil]
     rw [show (224 + r / 4096).toNat = 224 + r.toNat / 4096 by omega, show (128 + r / 64 % 64).toNat = 128 + r.toNat / 64 % 64 by omega, show (128 + r % 64).toNat = 128 + r.toNat % 64 by omega]
   · rw [if_neg (by omega), Lib.encodeRuneZ_four (by omega) (by omega)]
     simp only [List.map_cons, List.map_nil]
     rw [show (240 + r / 262144).toNat = 240 + r.toNat / 262144 by omega, show (128 + r / 4096 % 64).toNat = 128 + r.toNat / 4096 % 64 by omega, show (128 + r / 64 % 64).toNat = 128 + r.toNat / 64 % 64 by omega, show (128 + r % 64).toNat = 128 + r.toNat % 64 by omega]
theorem char_bytes (s : ByteArray) (p : Nat) (hp : p < s.size) (h : looseB s p = false) : (Utf8.encode (rn s p : Int)).data.toList = (s.data.toList.drop p).take (wdt s p) := by
  have hl : s.data.toList.length = s.size := by simp
  have gd : ∀ i, ((s.data.toList.drop p).getD i 0).toNat = (s.get! (p + i)).toNat := by
    intro i
    by_cases hi : p + i < s.size
    · rw [get_eq s _ hi, List.getD_eq_getElem?_getD, List.getElem?_drop, List.getElem?_eq_getElem (by omega)]
      rfl
    · rw [List.getD_eq_getElem?_getD, List.getElem?_eq_none (by rw [List.length_drop]; omega)]
      obtain ⟨⟨l⟩⟩ := s
      have h' : l.length ≤ p + i := Nat.le_of_not_lt hi
      have h2 : (⟨⟨l⟩⟩ : ByteArray).get! (p + i) = default := by
        show (⟨l⟩ : Array UInt8)[p + i]! = default
        rw [getElem!_neg (⟨l⟩ : Array UInt8) (p + i) (Nat.not_lt.2 h')]
      rw [h2]
      rfl
  have hd : Lib.decodeL (s.data.toList.drop p) = Utf8.decode s p := by
    have g0 := gd 0
    rw [Nat.add_zero] at g0
    rw [Lib.decodeL_N, shape, List.length_drop, hl, g0, gd 1, gd 2, gd 3]
  have he := Lib.encode_decode (s.data.toList.drop p) (fun e => by have : (s.data.toList.drop p).length = 0 := by rw [e]; rfl
                                                                   rw [List.length_drop] at this; omega) (by
    rw [hd]
    unfold looseB at h
    rw [decide_eq_false_iff_not] at h
    exact h)
  rw [hd] at he
  rw [← enc_same]
  exact he
def byt (s : ByteArray) (i : Nat) : Nat := if h : i < s.size then (s[i]'h).toNat else 0
theorem byt_lt (s : ByteArray) (i : Nat) : byt s i < 256 := by
 unfold byt
 split
 · exact (s[i]).toNat_lt
 · omega
theorem byt_in {s : ByteArray} {i : Nat} (h : byt s i ≠ 0) : i < s.size := by
 unfold byt at h
 split at h
 · assumption
 · exact absurd rfl h
theorem byt_get {s : ByteArray} {i : Nat} (h : i < s.size) : byt s i = (s[i]'h).toNat := by unfold byt; rw [dif_pos h]
theorem byt_out {s : ByteArray} {i : Nat} (h : ¬ i < s.size) : byt s i = 0 := by unfold byt; rw [dif_neg h]
theorem byt_extract (s : ByteArray) (a k : Nat) (ha : a ≤ s.size) : byt (s.extract a s.size) k = byt s (a + k) := by
 have hsz : (s.extract a s.size).size = s.size - a := by simp
 by_cases h : a + k < s.size
 · rw [byt_get (s := s.extract a s.size) (by omega), byt_get h]
   congr 1
   exact ByteArray.getElem_extract ..
 · rw [byt_out h, byt_out (by omega)]
theorem one_byte (s : ByteArray) (p : Nat) (h : p < s.size) (hb : byt s p < 128) : rn s p = byt s p ∧ wdt s p = 1 := by
 have e : (s.get! p).toNat = byt s p := by rw [byt_get h, get_eq s p h]; rfl
 have : Utf8.decode s p = (byt s p, 1) := by
  rw [shape, e]
  unfold Lib.decodeN
  rw [if_pos hb]
 unfold rn wdt
 rw [this]
 exact ⟨rfl, rfl⟩
theorem more_byte (s : ByteArray) (p : Nat) (h : p < s.size) (hb : 128 ≤ byt s p) : 128 ≤ rn s p := by
 have e : (s.get! p).toNat = byt s p := by rw [byt_get h, get_eq s p h]; rfl
 have := byt_lt s p
 unfold rn
 rw [shape, e]
 rcases Lib.decodeN_shape (s.size - p) (byt s p) (s.get! (p + 1)).toNat (s.get! (p + 2)).toNat (s.get! (p + 3)).toNat with ⟨c, e⟩ | ⟨c1, c2, c3, cv, e⟩ | ⟨c1, c2, c3, c4, cv, cs, e⟩ | ⟨c1, c2, c3, c4, c5, cv, cw, e⟩ | e
 all_goals (rw [e]; dsimp only; omega)
end Go.Proofs.YtmahamdmapbilaaGreatDoor
namespace Go.Proofs.YtmahamdmapbilaaGreatDoor
open Go.RowKit Go.Shelf
def hexV (b : Nat) : Int := if 48 ≤ b ∧ b ≤ 57 then (b : Int) - 48 else if 97 ≤ b ∧ b ≤ 102 then (b : Int) - 87 else if 65 ≤ b ∧ b ≤ 70 then (b : Int) - 55 else -1
theorem byteAt_any (s : ByteArray) (i : Nat) (w : World) :
   Calls Tryz.prog 199 #[.string s, .int .i64 i] w fun e w' => e = .returned (.int .u8 (byt s i)) ∧ w' = w := by
 by_cases h : i < s.size
 · have hb : byt s i = (s[i]'h).toNat := by unfold byt; rw [dif_pos h]
   have HB : Hid (byt s i = (s[i]'h).toNat) := hb
   clear hb
   go_enter Tryz.func199, Tryz.ntmps199
   go_wp2
   go_ret
   rw [HB.out]
   exact ⟨rfl, rfl⟩
 · have HB : Hid (byt s i = 0) := by show byt s i = 0; unfold byt; rw [dif_neg h]
   go_enter Tryz.func199, Tryz.ntmps199
   go_wp2
   go_ret
   rw [HB.out]
   exact ⟨rfl, rfl⟩
theorem ret_i32 {a b : Int} (h : a = b) : Ending.returned (.int .i32 a) = .returned (.int .i32 b) := by rw [h]
theorem hexValue_any (b : Nat) (hb : b < 256) (w : World) :
  Calls Tryz.prog 200 #[.int .u8 b] w fun e w' => e = .returned (.int .i32 (hexV b)) ∧ w' = w := by
 go_enter Tryz.func200, Tryz.ntmps200
 go_wp2
 all_goals
  go_ret
  refine ⟨ret_i32 ?_, rfl⟩
  unfold hexV
  (repeat' split) <;> omega
def ctl (r : Int) : Bool := decide (r < 32 ∨ r = 127)
theorem isControl_any (r : Int) (w : World) :
   Calls Tryz.prog 169 #[.int .i32 r] w fun e w' => e = .returned (.bool (ctl r)) ∧ w' = w := by
 by_cases h1 : r < 32
 · have HB : Hid (ctl r = true) := by show ctl r = true; simp [ctl, h1]
   go_enter Tryz.func169, Tryz.ntmps169
   go_wp2
   go_ret
   rw [HB.out]
   exact ⟨rfl, rfl⟩
 · by_cases h2 : r = 127
   · subst h2
     have HB : Hid (ctl 127 = true) := rfl
     go_enter Tryz.func169, Tryz.ntmps169
     go_wp2
     go_ret
     exact ⟨rfl, rfl⟩
   · have HB : Hid (ctl r = false) := by show ctl r = false; simp [ctl, h1, h2]
     have hq : (r == 127) = false := beq_eq_false_iff_ne.2 h2
     go_enter Tryz.func169, Tryz.ntmps169
     go_wp2
     go_ret
     rw [HB.out]
     first | exact ⟨rfl, rfl⟩ | exact ⟨by simp [hq], rfl⟩
def okR (c : Nat) : Bool := decide (c < 55296 ∨ (57344 ≤ c ∧ c ≤ 1114111))
def closeN (b : Nat → Nat) (r p c : Nat) : Option (Nat × Nat) := if r ≠ 6 ∧ b p = 125 ∧ okR c = true then some (c, p + 1) else none
def num (b : Nat → Nat) : Nat → Nat → Nat → Option (Nat × Nat)
 | 0, p, c => closeN b 0 p c
 | r + 1, p, c => if 0 ≤ hexV (b p) then num b r (p + 1) (c * 16 + (hexV (b p)).toNat) else closeN b (r + 1) p c
def esc (b : Nat → Nat) : Option (List UInt8 × Nat) :=
 if b 1 = 34 ∨ b 1 = 92 then some ([UInt8.ofNat (b 1)], 2)
 else if b 1 = 110 then some ([10], 2)
 else if b 1 = 116 then some ([9], 2)
 else if b 1 = 114 then some ([13], 2)
 else if b 1 = 120 then (if 0 ≤ hexV (b 2) ∧ 0 ≤ hexV (b 3) then some ([UInt8.ofNat ((hexV (b 2)).toNat * 16 + (hexV (b 3)).toNat)], 4) else none)
 else if b 1 = 117 then (if b 2 = 123 then (num b 6 3 0).map (fun x => ((Utf8.encode (x.1 : Int)).data.toList, x.2)) else none)
 else none
theorem hexV_lt (b : Nat) : hexV b < 16 ∧ -1 ≤ hexV b := by
 unfold hexV
 (repeat' split) <;> omega
theorem hexV_ascii {b : Nat} (h : 0 ≤ hexV b) : 0 < b ∧ b < 128 ∧ b ≠ 125 := by
 unfold hexV at h
 (repeat' split at h) <;> omega
theorem num_ok (b : Nat → Nat) : ∀ (r p c : Nat) (x : Nat × Nat), r ≤ 6 → num b r p c = some x → p + 1 ≤ x.2 ∧ x.2 ≤ p + r + 1 ∧ okR x.1 = true ∧ ∀ k, p ≤ k → k < x.2 → 0 < b k ∧ b k < 128
 | 0, p, c, x, _, h => by
  unfold num closeN at h
  split at h
  · rename_i hc
    cases h
    refine ⟨Nat.le_refl _, by simp, hc.2.2, fun k h1 h2 => ?_⟩
    dsimp only at h2
    obtain rfl : k = p := by omega
    omega
  · cases h
 | r + 1, p, c, x, hr, h => by
  unfold num at h
  split at h
  · rename_i hd
    obtain ⟨h1, h2, h3, h4⟩ := num_ok b r (p + 1) _ x (by omega) h
    refine ⟨by omega, by omega, h3, fun k k1 k2 => ?_⟩
    by_cases hk : k = p
    · subst hk
      have := hexV_ascii hd
      omega
    · exact h4 k (by omega) k2
  · unfold closeN at h
    split at h
    · rename_i hc
      cases h
      refine ⟨Nat.le_refl _, by dsimp only; omega, hc.2.2, fun k h1 h2 => ?_⟩
      dsimp only at h2
      obtain rfl : k = p := by omega
      omega
    · cases h
theorem esc_ok (b : Nat → Nat) (l : List UInt8) (n : Nat) (h : esc b = some (l, n)) : 2 ≤ n ∧ n ≤ 10 ∧ l.length ≤ 4 ∧ ∀ k, 1 ≤ k → k < n → 0 < b k ∧ b k < 128 := by
 unfold esc at h
 split at h
 · cases h
   refine ⟨by omega, by omega, by simp, fun k k1 k2 => ?_⟩
   obtain rfl : k = 1 := by omega
   omega
 split at h
 · cases h
   refine ⟨by omega, by omega, by simp, fun k k1 k2 => ?_⟩
   obtain rfl : k = 1 := by omega
   omega
 split at h
 · cases h
   refine ⟨by omega, by omega, by simp, fun k k1 k2 => ?_⟩
   obtain rfl : k = 1 := by omega
   omega
 split at h
 · cases h
   refine ⟨by omega, by omega, by simp, fun k k1 k2 => ?_⟩
   obtain rfl : k = 1 := by omega
   omega
 split at h
 · split at h
   · rename_i hx hd
     cases h
     have h2 := hexV_ascii hd.1
     have h3 := hexV_ascii hd.2
     refine ⟨by omega, by omega, by simp, fun k k1 k2 => ?_⟩
     obtain rfl | rfl | rfl : k = 1 ∨ k = 2 ∨ k = 3 := by omega
     all_goals omega
   · cases h
 split at h
 · split at h
   · rename_i hu hb
     rw [Option.map_eq_some_iff] at h
     obtain ⟨x, hx, he⟩ := h
     simp only [Prod.mk.injEq] at he
     obtain ⟨e1, e2⟩ := he
     subst e2
     obtain ⟨h1, h2, h3, h4⟩ := num_ok b 6 3 0 x (by omega) hx
     refine ⟨by omega, by omega, ?_, fun k k1 k2 => ?_⟩
     · rw [← e1, enc_len]
       exact (clen_pos _).2
     · by_cases hk1 : k = 1
       · subst hk1; omega
       by_cases hk2 : k = 2
       · subst hk2; omega
       exact h4 k (by omega) k2
   · cases h
 · cases h
theorem esc_congr {b b' : Nat → Nat} (h : ∀ k, b k = b' k) : esc b = esc b' := by rw [funext h]
theorem esc_extract (s : ByteArray) (a : Nat) (ha : a ≤ s.size) : esc (byt (s.extract a s.size)) = esc (fun k => byt s (a + k)) := esc_congr (fun k => byt_extract s a k ha)
def lead (s : ByteArray) : Nat → Nat → List UInt8 → List UInt8 × Nat × Nat
 | 0, _, _ => ([], s.size, 11)
 | f + 1, p, acc =>
  if ¬ p < s.size then ([], s.size, 11)
  else if byt s p = 34 then (acc, p + 1, 0)
  else if byt s p = 92 then (match esc (fun k => byt s (p + k)) with | none => ([], p, 12) | some x => lead s f (p + x.2) (acc ++ x.1))
  else if ctl (rn s p : Int) = true ∨ looseB s p = true then ([], p, 10)
  else lead s f (p + wdt s p) (acc ++ (Utf8.encode (rn s p : Int)).data.toList)
theorem lead_end (s : ByteArray) (f p : Nat) (acc : List UInt8) (h : ¬ p < s.size) : lead s f p acc = ([], s.size, 11) := by
 cases f with
 | zero => rfl
 | succ f => rw [lead, if_pos h]
theorem lead_quote (s : ByteArray) (f p : Nat) (acc : List UInt8) (h : p < s.size) (hq : byt s p = 34) : lead s (f + 1) p acc = (acc, p + 1, 0) := by
 rw [lead, if_neg (by omega), if_pos hq]
theorem lead_none (s : ByteArray) (f p : Nat) (acc : List UInt8) (h : p < s.size) (hq : byt s p = 92) (he : esc (fun k => byt s (p + k)) = none) : lead s (f + 1) p acc = ([], p, 12) := by
 rw [lead, if_neg (by omega), if_neg (by omega), if_pos hq, he]
theorem lead_some (s : ByteArray) (f p : Nat) (acc l : List UInt8) (n : Nat) (h : p < s.size) (hq : byt s p = 92) (he : esc (fun k => byt s (p + k)) = some (l, n)) : lead s (f + 1) p acc = lead s f (p + n) (acc ++ l) := by
 rw [lead, if_neg (by omega), if_neg (by omega), if_pos hq, he]
theorem lead_bad (s : ByteArray) (f p : Nat) (acc : List UInt8) (h : p < s.size) (h1 : byt s p ≠ 34) (h2 : byt s p ≠ 92) (hb : ctl (rn s p : Int) = true ∨ looseB s p = true) : lead s (f + 1) p acc = ([], p, 10) := by
 rw [lead, if_neg (by omega), if_neg h1, if_neg h2, if_pos hb]
theorem lead_char (s : ByteArray) (f p : Nat) (acc : List UInt8) (h : p < s.size) (h1 : byt s p ≠ 34) (h2 : byt s p ≠ 92) (hb : ¬ (ctl (rn s p : Int) = true ∨ looseB s p = true)) : lead s (f + 1) p acc = lead s f (p + wdt s p) (acc ++ (Utf8.encode (rn s p : Int)).data.toList) := by
 rw [lead, if_neg (by omega), if_neg h1, if_neg h2, if_neg hb]
theorem cls_range (r : Int) : cls r = 1 ∨ cls r = 2 ∨ cls r = 3 ∨ cls r = 4 ∨ cls r = 5 ∨ cls r = 6 := by
 unfold cls
 repeat' split
 all_goals simp
def kindR (r : Int) : Int := if r = 34 then 4 else if r = 35 then -2 else if cls r = 1 then -1 else if cls r = 3 then 3 else if cls r = 4 then 2 else if cls r = 5 then 5 else 0
theorem kindAt_any (r : Int) (w : World) : Calls Tryz.prog 105 #[.int .i32 r] w fun e w' => e = .returned (.int .i64 (kindR r)) ∧ Below w.heap.size w w' := by
 by_cases c1 : r = 34
 · subst c1
   go_enter Tryz.func105, Tryz.ntmps105
   go_wp2
   go_ret
   exact ⟨rfl, (Below.refl _ _).alloc (Nat.le_refl _) _⟩
 by_cases c2 : r = 35
 · subst c2
   go_enter Tryz.func105, Tryz.ntmps105
   go_wp2
   go_ret
   exact ⟨rfl, (Below.refl _ _).alloc (Nat.le_refl _) _⟩
 have g1 : (r == 34) = false := beq_eq_false_iff_ne.2 c1
 have g2 : (r == 35) = false := beq_eq_false_iff_ne.2 c2
 have hc := class_any r
 have HK : Hid (kindR r = if cls r = 1 then -1 else if cls r = 3 then 3 else if cls r = 4 then 2 else if cls r = 5 then 5 else 0) := by show kindR r = _; unfold kindR; rw [if_neg c1, if_neg c2]
 clear c1 c2
 rcases cls_range r with h | h | h | h | h | h
 all_goals
   rw [h] at hc HK
   have HV : Hid (kindR r = _) := HK
   clear HK h
   go_enter Tryz.func105, Tryz.ntmps105
   go_wp2_with (go_at_call 92; refine (hc _).mono ?_; rintro e w9 ⟨rfl, rfl⟩)
   go_ret
   rw [HV.out]
   exact ⟨rfl, (Below.refl _ _).alloc (Nat.le_refl _) _⟩
def runAt (s : ByteArray) : Nat → Nat → Nat → Nat × Nat
 | 0, p, n => (p, n)
 | f + 1, p, n => if ¬ p < s.size then (s.size, n) else if cls (rn s p : Int) = 4 ∨ cls (rn s p : Int) = 3 then runAt s f (p + wdt s p) (n + 1) else (p, n)
def runR (s : ByteArray) : Nat × Nat := runAt s (s.size + 1) 0 0
theorem run_any (s : ByteArray) (hs : s.size ≤ maxLen) (w : World) :
  Calls Tryz.prog 106 #[.string s] w fun e w' => e = .returned (.tuple #[.int .i64 (runR s).1, .int .i64 (runR s).2]) ∧ Below w.heap.size w w' := by
 unfold maxLen at hs
 go_enter Tryz.func106, Tryz.ntmps106
 go_wp2
 go_loopw [3] (fun c wz => ∃ (pos n f : Nat), c = .int .i64 n ∧ s.size < pos + f ∧ n ≤ pos ∧ pos ≤ s.size ∧ Hid (runAt s f pos n = runR s) ∧ wz.heap[w.heap.size]? = some (.stringIter s pos) ∧ Below w.heap.size w wz) (fun _ wz => s.size - wz.iterPos w.heap.size)
 case atStart =>
  refine ⟨0, 0, s.size + 1, rfl, by omega, by omega, by omega, rfl, ?_, (Below.refl _ w).alloc (Nat.le_refl _) _⟩
  exact World.iter_heap w s 0
 case round =>
  obtain ⟨pos, n, f, rfl, hfu, hnp, hps, HR, hit, hbw⟩ := hrel
  have hsz : w.heap.size < wr.heap.size := (Array.getElem?_eq_some_iff.1 hit).1
  obtain ⟨g, rfl⟩ : ∃ g, f = g + 1 := ⟨f - 1, by omega⟩
  by_cases hp : pos < s.size
  · have hnx : ∀ ty, (Instr.next (.pointer (some ⟨w.heap.size, 0, none⟩)) true ty).run Tryz.prog wr = _ := fun ty => Lib.run_next_any_at wr w.heap.size s pos ty hit hp
    have hwd := wdt_pos s pos
    have hwl := wdt_le s pos hp
    have hit2 := Lib.iterAt_heap wr w.heap.size s pos (pos + wdt s pos) hit
    have hbw2 := Lib.below_iterAt hbw (k := w.heap.size) (Nat.le_refl _) s (pos + wdt s pos)
    have hsz3 : wr.iterPos w.heap.size = pos := by simp only [World.iterPos, hit]
    have erw : (Utf8.decode s pos).1 = rn s pos := rfl
    have eww : (Utf8.decode s pos).2 = wdt s pos := rfl
    rw [erw, eww] at hnx
    clear erw eww
    have hc := class_any (rn s pos : Int)
    by_cases hk : cls (rn s pos : Int) = 4 ∨ cls (rn s pos : Int) = 3
    · have HR2 : Hid (runAt s g (pos + wdt s pos) (n + 1) = runR s) := by
       have h := HR.out
       rw [runAt, if_neg (by omega), if_pos hk] at h
       exact h
      clear HR hbw
      rcases hk with hk | hk
      all_goals
       rw [hk] at hc
       clear hk
       go_wp2_with (go_at_call 92; refine (hc _).mono ?_; rintro e w9 ⟨rfl, rfl⟩)
       go_roundw
       case rel => exact ⟨pos + wdt s pos, n + 1, g, by go_num, by omega, by omega, hwl, HR2, hit2, hbw2⟩
       case measure =>
        rw [hsz3]
        simp only [World.iterPos, hit2]
        omega
    · have HV : Hid (runR s = (pos, n)) := by
       have h := HR.out
       rw [runAt, if_neg (by omega), if_neg hk] at h
       exact h.symm
      have q1 : (cls (rn s pos : Int) == 4) = false := beq_eq_false_iff_ne.2 (fun h => hk (Or.inl h))
      have q2 : (cls (rn s pos : Int) == 3) = false := beq_eq_false_iff_ne.2 (fun h => hk (Or.inr h))
      clear HR hbw hk
      go_wp2_with (go_at_call 92; refine (hc _).mono ?_; rintro e w9 ⟨rfl, rfl⟩)
      go_ret2
      rw [HV.out]
      exact ⟨rfl, hbw2⟩
  · have hnx : ∀ ty, (Instr.next (.pointer (some ⟨w.heap.size, 0, none⟩)) true ty).run Tryz.prog wr = _ := fun ty => Lib.run_next_end_at wr w.heap.size s pos ty hit hp
    have HV : Hid (runR s = (s.size, n)) := by
      have h := HR.out
      rw [runAt, if_pos hp] at h
      exact h.symm
    clear HR
    go_wp2
    go_ret2
    rw [HV.out]
    exact ⟨rfl, hbw⟩
end Go.Proofs.YtmahamdmapbilaaGreatDoor
