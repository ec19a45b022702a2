/- What glyph.Mend answers, and the plain mathematics of a mended text: at every text of at most 2^22 bytes. -/
import Derived.Test.YtakobmhnochlhaaChs
import Derived.Test.YtakobmhnochlhaaRun
import Derived.Test.YtakobmhnochlhaaShl
import Derived.BigCall
namespace Go.Proofs.Ytakobmhnochlhaa
open Go.RowKit Go.Shelf

/-- The bytes of a list of runes; the runes of a text. -/
def enl (l : List Int) : List UInt8 := wr l
theorem enl_append (a b : List Int) : enl (a ++ b) = enl a ++ enl b := wr_append a b
def runes (s : ByteArray) (l : List Nat) : List Int := l.map fun p => (rn s p : Int)

theorem enc_same (r : Int) : Lib.encodeRune r = (Utf8.encode r).data.toList := by
  rw [enc_list]
  unfold Lib.encodeRune
  by_cases hb : r < 0 ∨ (55296 ≤ r ∧ r ≤ 57343) ∨ 1114111 < r
  · have hc : code r = 65533 := by
      unfold code Utf8.valid
      rw [if_neg]
      simp only [Bool.or_eq_true, Bool.and_eq_true, decide_eq_true_eq]
      omega
    rw [Lib.encodeRuneZ_bad hb, hc]
    rfl
  · have hc : code r = r.toNat := by
      unfold code Utf8.valid
      rw [if_pos]
      simp only [Bool.or_eq_true, Bool.and_eq_true, decide_eq_true_eq]
      omega
    rw [hc]
    by_cases c1 : r ≤ 127
    · rw [Lib.encodeRuneZ_one (by omega) c1, if_pos (by omega)]
      rfl
    rw [if_neg (by omega)]
    by_cases c2 : r ≤ 2047
    · rw [Lib.encodeRuneZ_two (by omega) c2, if_pos (by omega)]
      simp only [List.map_cons, List.map_nil]
      rw [show (192 + r / 64).toNat = 192 + r.toNat / 64 by omega, show (128 + r % 64).toNat = 128 + r.toNat % 64 by omega]
    rw [if_neg (by omega)]
    by_cases c3 : r ≤ 65535
    · rw [Lib.encodeRuneZ_three (by omega), if_pos (by omega)]
      simp only [List.map_cons, List.map_nil]
      rw [show (224 + r / 4096).toNat = 224 + r.toNat / 4096 by omega, show (128 + r / 64 % 64).toNat = 128 + r.toNat / 64 % 64 by omega, show (128 + r % 64).toNat = 128 + r.toNat % 64 by omega]
    · rw [if_neg (by omega), Lib.encodeRuneZ_four (by omega) (by omega)]
      simp only [List.map_cons, List.map_nil]
      rw [show (240 + r / 262144).toNat = 240 + r.toNat / 262144 by omega, show (128 + r / 4096 % 64).toNat = 128 + r.toNat / 4096 % 64 by omega, show (128 + r / 64 % 64).toNat = 128 + r.toNat / 64 % 64 by omega, show (128 + r % 64).toNat = 128 + r.toNat % 64 by omega]

theorem rn_ok (s : ByteArray) (p : Nat) : rn s p < 55296 ∨ (57344 ≤ rn s p ∧ rn s p ≤ 1114111) := by
  have k0 := (s.get! p).toNat_lt
  unfold rn; rw [shape]
  rcases Lib.decodeN_shape (s.size - p) (s.get! p).toNat (s.get! (p + 1)).toNat (s.get! (p + 2)).toNat (s.get! (p + 3)).toNat with ⟨c, e⟩ | ⟨c1, c2, c3, cv, e⟩ | ⟨c1, c2, c3, c4, cv, cs, e⟩ | ⟨c1, c2, c3, c4, c5, cv, cw, e⟩ | e
  all_goals (rw [e]; dsimp only; omega)
theorem code_rn (s : ByteArray) (p : Nat) : code (rn s p : Int) = rn s p := by
  have := rn_ok s p
  unfold code Utf8.valid
  rw [if_pos]
  · rfl
  · simp only [Bool.or_eq_true, Bool.and_eq_true, decide_eq_true_eq]
    omega

theorem plain_wr (s : ByteArray) (l : List Int) (h : s.data.toList = wr l) : (starts s).length = l.length ∧ plainB s = true ∧ ∀ (k : Nat) (r : Int), l[k]? = some r → ∃ p, (starts s)[k]? = some p ∧ rn s p = code r ∧ looseB s p = false := by
  obtain ⟨h1, h2⟩ := starts_wr s l [] s.size (by rw [h]; rfl) (by simp)
  have h1' : (starts s).length = l.length := h1
  have h2' : ∀ k p : Nat, (starts s)[k]? = some p → ∃ r, l[k]? = some r ∧ rn s p = code r ∧ looseB s p = false := h2
  refine ⟨h1', ?_, fun k r hk => ?_⟩
  · unfold plainB
    rw [List.all_eq_true]
    intro p hp
    obtain ⟨k, hk⟩ := List.getElem?_of_mem hp
    obtain ⟨r, _, _, h3⟩ := h2' k p hk
    simp [h3]
  · have hlt : k < (starts s).length := by have := (List.getElem?_eq_some_iff.1 hk).1; omega
    obtain ⟨r', e1, e2, e3⟩ := h2' k _ (List.getElem?_eq_getElem hlt)
    rw [hk] at e1
    cases e1
    exact ⟨_, List.getElem?_eq_getElem hlt, e2, e3⟩

/-- The mended text. -/
def mendB (s : ByteArray) : ByteArray := ⟨(enl (runes s (starts s))).toArray⟩
theorem mend_data (s : ByteArray) : (mendB s).data.toList = wr (runes s (starts s)) := by unfold mendB enl; simp
theorem mend_count (s : ByteArray) : (starts (mendB s)).length = (starts s).length := by
  rw [(plain_wr _ _ (mend_data s)).1]; simp [runes]
theorem mend_plain (s : ByteArray) : plainB (mendB s) = true := (plain_wr _ _ (mend_data s)).2.1
theorem mend_runes (s : ByteArray) : runes (mendB s) (starts (mendB s)) = runes s (starts s) := by
  apply List.ext_getElem?
  intro k
  by_cases hk : k < (starts s).length
  · have hg : (runes s (starts s))[k]? = some (rn s (starts s)[k] : Int) := by simp [runes, hk]
    obtain ⟨p, h1, h2, _⟩ := (plain_wr _ _ (mend_data s)).2.2 k _ hg
    rw [hg]
    rw [code_rn] at h2
    simp [runes, h1, h2]
  · have h1 := mend_count s
    rw [List.getElem?_eq_none (by simp [runes]; omega), List.getElem?_eq_none (by simp [runes]; omega)]
theorem mend_twice (s : ByteArray) : mendB (mendB s) = mendB s := by
  unfold mendB
  rw [show runes ⟨(enl (runes s (starts s))).toArray⟩ (starts ⟨(enl (runes s (starts s))).toArray⟩) = runes s (starts s) from mend_runes s]
theorem mend_size (s : ByteArray) : (mendB s).size ≤ 4 * s.size := by
  have h1 := wr_len (runes s (starts s))
  have h2 : (mendB s).data.toList.length = (mendB s).size := by simp
  rw [mend_data] at h2
  have h3 := starts_length s
  have h4 : (runes s (starts s)).length = (starts s).length := by simp [runes]
  omega

theorem char_bytes (s : ByteArray) (p : Nat) (hp : p < s.size) (h : looseB s p = false) : (Utf8.encode (rn s p : Int)).data.toList = (s.data.toList.drop p).take (wd s p) := by
  have hl : s.data.toList.length = s.size := by simp
  have gd : ∀ i, ((s.data.toList.drop p).getD i 0).toNat = (s.get! (p + i)).toNat := by
    intro i
    by_cases hi : p + i < s.size
    · rw [get_eq s _ hi, List.getD_eq_getElem?_getD, List.getElem?_drop, List.getElem?_eq_getElem (by omega)]
      rfl
    · rw [List.getD_eq_getElem?_getD, List.getElem?_eq_none (by rw [List.length_drop]; omega)]
      obtain ⟨⟨l⟩⟩ := s
      have h' : l.length ≤ p + i := Nat.le_of_not_lt hi
      have h2 : (⟨⟨l⟩⟩ : ByteArray).get! (p + i) = default := by
        show (⟨l⟩ : Array UInt8)[p + i]! = default
        rw [getElem!_neg (⟨l⟩ : Array UInt8) (p + i) (Nat.not_lt.2 h')]
      rw [h2]
      rfl
  have hd : Lib.decodeL (s.data.toList.drop p) = Utf8.decode s p := by
    have g0 := gd 0
    rw [Nat.add_zero] at g0
    rw [Lib.decodeL_N, shape, List.length_drop, hl, g0, gd 1, gd 2, gd 3]
  have he := Lib.encode_decode (s.data.toList.drop p) (fun e => by have : (s.data.toList.drop p).length = 0 := by rw [e]; rfl
                                                                   rw [List.length_drop] at this; omega) (by
    rw [hd]
    unfold looseB at h
    rw [decide_eq_false_iff_not] at h
    exact h)
  rw [hd] at he
  rw [← enc_same]
  exact he

theorem enl_cons (s : ByteArray) (p : Nat) (l : List Nat) : enl (runes s (p :: l)) = (Utf8.encode (rn s p : Int)).data.toList ++ enl (runes s l) := by
  unfold enl runes
  rw [List.map_cons, wr]
theorem plain_bytes (s : ByteArray) : ∀ (f p : Nat), s.size ≤ p + f → p ≤ s.size → (∀ q ∈ startsFrom s f p, looseB s q = false) → enl (runes s (startsFrom s f p)) = s.data.toList.drop p
  | 0, p, hf, hp, _ => by
    have hl : s.data.toList.length = s.size := by simp
    rw [List.drop_of_length_le (by omega)]; rfl
  | f + 1, p, hf, hp, h => by
    have hl : s.data.toList.length = s.size := by simp
    by_cases hlt : p < s.size
    · rw [startsFrom_step s f p hlt] at h ⊢
      have h1 := wd_pos s p
      have h2 := wd_le s p hlt
      have ih := plain_bytes s f (p + wd s p) (by omega) h2 (fun q hq => h q (List.mem_cons_of_mem _ hq))
      have hc := char_bytes s p hlt (h p List.mem_cons_self)
      rw [enl_cons]
      have hdd : s.data.toList.drop (p + wd s p) = (s.data.toList.drop p).drop (wd s p) := by rw [List.drop_drop]
      rw [ih, hc, hdd]
      exact List.take_append_drop (wd s p) (s.data.toList.drop p)
    · rw [startsFrom_end s _ p hlt, List.drop_of_length_le (by omega)]; rfl
theorem mend_same (s : ByteArray) : ((mendB s).toList == s.toList) = plainB s := by
  cases hp : plainB s with
  | true =>
    rw [beq_iff_eq, Lib.toList_data, Lib.toList_data, mend_data]
    have := plain_bytes s s.size 0 (by omega) (by omega) (fun q hq => by
      unfold plainB at hp
      rw [List.all_eq_true] at hp
      have := hp q hq
      simpa using this)
    rw [List.drop_zero] at this
    exact this
  | false =>
    rw [beq_eq_false_iff_ne]
    intro e
    rw [Lib.toList_data, Lib.toList_data] at e
    have e2 : mendB s = s := by
      apply ByteArray.ext
      exact Array.toList_inj.1 e
    have := mend_plain s
    rw [e2, hp] at this
    cases this

end Go.Proofs.Ytakobmhnochlhaa
