/- The text of some signs, and the signs of a text: plain mathematics. -/
import Derived.Test.YtebpngapkkdifaaDoorEnc
import Derived.Test.YtebpngapkkdifaaDoorRos
import Derived.Laws.Cover4
namespace Go.Proofs.YtebpngapkkdifaaDoor
open Go.RowKit

/-- The text of these runes. -/
def txt (l : List Int) : ByteArray := ⟨(wr l).toArray⟩
theorem txt_data (l : List Int) : (txt l).data.toList = wr l := by simp [txt]
theorem runesBytes_go (l : List Int) : ∀ b : ByteArray, (l.foldl (fun r n => r ++ Utf8.encode n) b).data.toList = b.data.toList ++ wr l := by
  induction l with
  | nil => intro b; simp [wr]
  | cons r l ih =>
    intro b
    rw [List.foldl_cons, ih]
    simp [wr]
theorem runesBytes_txt (l : List Int) : runesBytes l = txt l := by
  apply ByteArray.ext
  apply Array.toList_inj.1
  rw [txt_data, runesBytes, runesBytes_go]
  rfl
theorem txt_size (l : List Int) : (txt l).size ≤ 4 * l.length := by
  have h : (txt l).data.toList.length = (txt l).size := by simp
  rw [txt_data] at h
  have := wr_len l
  omega
theorem loose_no_letter {s : ByteArray} {p : Nat} (h : cls (rn s p : Int) = 4) : looseB s p = false := by
  unfold looseB
  rw [decide_eq_false_iff_not]
  rintro ⟨e, _⟩
  rw [e] at h
  exact absurd h (by decide)
theorem plain_from (s : ByteArray) : ∀ (f p : Nat), s.size ≤ p + f → p ≤ s.size → (∀ c ∈ charsFrom s f p, cls c = 4) → wr (charsFrom s f p) = s.data.toList.drop p
  | 0, p, hf, hp, _ => by
    have hl : s.data.toList.length = s.size := by simp
    rw [List.drop_of_length_le (by omega)]; rfl
  | f + 1, p, hf, hp, h => by
    have hl : s.data.toList.length = s.size := by simp
    by_cases hlt : p < s.size
    · rw [charsFrom_step s f p hlt] at h ⊢
      have h1 := wdt_pos s p
      have h2 := wdt_le s p hlt
      have ih := plain_from s f (p + wdt s p) (by omega) h2 (fun q hq => h q (List.mem_cons_of_mem _ hq))
      have hc := char_bytes s p hlt (loose_no_letter (h _ List.mem_cons_self))
      rw [wr]
      have hdd : s.data.toList.drop (p + wdt s p) = (s.data.toList.drop p).drop (wdt s p) := by rw [List.drop_drop]
      rw [ih, hc, hdd]
      exact List.take_append_drop (wdt s p) (s.data.toList.drop p)
    · rw [charsFrom_end s _ p hlt, List.drop_of_length_le (by omega)]; rfl
theorem text_letters (s : ByteArray) (h : ∀ c ∈ charsOf s, cls c = 4) : txt (charsOf s) = s := by
  apply ByteArray.ext
  apply Array.toList_inj.1
  rw [txt_data, charsOf, plain_from s s.size 0 (by omega) (by omega) h]
  rfl
theorem code_letter {c : Int} (h : cls c = 4) : (code c : Int) = c := by
  have := cls_letter h
  unfold code Utf8.valid
  rw [if_pos]
  · omega
  · simp only [Bool.or_eq_true, Bool.and_eq_true, decide_eq_true_eq]
    omega
theorem chars_txt (l : List Int) (h : ∀ c ∈ l, (code c : Int) = c) : charsOf (txt l) = l := by
  obtain ⟨h1, h2⟩ := starts_wr (txt l) l [] (txt l).size (by rw [txt_data]; rfl) (by simp)
  apply List.ext_getElem?
  intro k
  unfold charsOf charsFrom
  simp only [List.length_nil] at h1 h2
  by_cases hk : k < l.length
  · have hk' : k < (startsFrom (txt l) (txt l).size 0).length := by omega
    obtain ⟨r, e1, e2, _⟩ := h2 k _ (List.getElem?_eq_getElem hk')
    rw [e1, List.getElem?_map, List.getElem?_eq_getElem hk', Option.map_some, e2, h r (List.mem_of_getElem? e1)]
  · rw [List.getElem?_eq_none (by rw [List.length_map]; omega), List.getElem?_eq_none (by omega)]
theorem rdGo_ok : ∀ (t acc : List Int), (rdGo acc t).2.2 = 0 → rdGo acc t = (acc ++ t, 0, 0)
  | [], acc, _ => by rw [List.append_nil, rdGo]
  | c :: t, acc, h => by
    unfold rdGo at h ⊢
    by_cases h1 : cls c = 4
    · rw [if_pos h1] at h ⊢
      by_cases h2 : c ∈ acc
      · rw [if_pos h2] at h; cases h
      · rw [if_neg h2] at h ⊢
        by_cases h3 : acc.length < 100
        · rw [if_pos h3] at h ⊢; rw [rdGo_ok t (acc ++ [c]) h, List.append_assoc]; rfl
        · rw [if_neg h3] at h; cases h
    · rw [if_neg h1] at h; cases h
theorem rdGo_bad : ∀ (t acc : List Int), (rdGo acc t).2.2 ≠ 0 → (rdGo acc t).1 = []
  | [], acc, h => absurd rfl h
  | c :: t, acc, h => by
    unfold rdGo at h ⊢
    by_cases h1 : cls c = 4
    · rw [if_pos h1] at h ⊢
      by_cases h2 : c ∈ acc
      · rw [if_pos h2]
      · rw [if_neg h2] at h ⊢
        by_cases h3 : acc.length < 100
        · rw [if_pos h3] at h ⊢; exact rdGo_bad t (acc ++ [c]) h
        · rw [if_neg h3]
    · rw [if_neg h1]
theorem read_bad {s : ByteArray} (h : (readR s).2.2 ≠ 0) : (readR s).1 = [] := by
  unfold readR at h ⊢
  by_cases h1 : 65536 < s.size
  · rw [if_pos h1]
  · rw [if_neg h1] at h ⊢
    by_cases h2 : s.size = 0
    · rw [if_pos h2]
    · rw [if_neg h2] at h ⊢; exact rdGo_bad _ _ h
theorem read_ok {s : ByteArray} (h : (readR s).2.2 = 0) : readR s = (charsOf s, 0, 0) ∧ s.size ≤ 65536 ∧ 0 < s.size ∧ Signs (charsOf s) := by
  have hs := readR_signs s
  unfold readR at h hs ⊢
  by_cases h1 : 65536 < s.size
  · rw [if_pos h1] at h; cases h
  · rw [if_neg h1] at h hs ⊢
    by_cases h2 : s.size = 0
    · rw [if_pos h2] at h; cases h
    · rw [if_neg h2] at h hs ⊢
      have := rdGo_ok _ _ h
      rw [this] at hs ⊢
      exact ⟨rfl, by omega, by omega, hs⟩
theorem chars_pos {s : ByteArray} (h : 0 < s.size) : 0 < (charsOf s).length := by
  obtain ⟨n, hn⟩ : ∃ n, s.size = n + 1 := ⟨s.size - 1, by omega⟩
  rw [charsOf, hn, charsFrom_step s n 0 h]
  simp
theorem charsFrom_length (s : ByteArray) (f p : Nat) (h : p ≤ s.size) : (charsFrom s f p).length + p ≤ s.size := by
  have := startsFrom_length s f p h
  rw [charsFrom, List.length_map]
  exact this
end Go.Proofs.YtebpngapkkdifaaDoor
