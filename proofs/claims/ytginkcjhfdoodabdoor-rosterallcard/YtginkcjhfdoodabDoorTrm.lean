/- A set that is written by signs, in any order: plain mathematics. -/
import Derived.Test.YtginkcjhfdoodabDoorPsm
import Derived.Test.YtginkcjhfdoodabDoorEnl
namespace Go.Proofs.YtginkcjhfdoodabDoor

/-- The set of these signs. -/
def bitsOf (l : List Int) : List Int → Nat
  | [] => 0
  | c :: t => 2 ^ l.idxOf c ||| bitsOf l t
theorem bitsOf_append (l : List Int) : ∀ a b : List Int, bitsOf l (a ++ b) = bitsOf l a ||| bitsOf l b
  | [], b => by simp [bitsOf]
  | c :: t, b => by rw [List.cons_append, bitsOf, bitsOf, bitsOf_append l t b, Nat.or_assoc]
theorem idx_ne {l : List Int} {c d : Int} (hc : c ∈ l) (h : d ≠ c) : l.idxOf d ≠ l.idxOf c := by
  intro e
  have h1 := List.idxOf_lt_length_iff.2 hc
  have h2 : l.idxOf d < l.length := by omega
  have g1 := List.getElem_idxOf h1
  have g2 := List.getElem_idxOf h2
  apply h
  rw [← g1, ← g2]
  simp only [e]
theorem psGo_ok (l : List Int) : ∀ (t : List Int) (N k : Nat), (psGo l N k t).2.2 = 0 → psGo l N k t = (N ||| bitsOf l t, 0, 0) ∧ (∀ c ∈ t, c ∈ l) ∧ t.Nodup ∧ ∀ c ∈ t, N.testBit (l.idxOf c) = false
  | [], N, k, _ => ⟨by simp [psGo, bitsOf], (fun c h => by cases h), List.nodup_nil, (fun c h => by cases h)⟩
  | c :: t, N, k, h => by
    unfold psGo at h ⊢
    by_cases h1 : c ∈ l
    · rw [if_pos h1] at h ⊢
      by_cases h2 : N.testBit (l.idxOf c)
      · rw [if_pos h2] at h; cases h
      · rw [if_neg h2] at h ⊢
        obtain ⟨e1, e2, e3, e4⟩ := psGo_ok l t _ _ h
        refine ⟨by rw [e1, bitsOf, Nat.or_assoc], ?_, ?_, ?_⟩
        · intro d hd
          rcases List.mem_cons.1 hd with rfl | hd
          · exact h1
          · exact e2 d hd
        · refine List.nodup_cons.2 ⟨fun hc => ?_, e3⟩
          have := e4 c hc
          rw [Nat.testBit_or, Nat.testBit_two_pow_self, Bool.or_true] at this
          cases this
        · intro d hd
          rcases List.mem_cons.1 hd with rfl | hd
          · simpa using h2
          · have := e4 d hd
            rw [Nat.testBit_or, Bool.or_eq_false_iff] at this
            exact this.1
    · rw [if_neg h1] at h; cases h
theorem psGo_mk (l : List Int) : ∀ (t : List Int) (N k : Nat), (∀ c ∈ t, c ∈ l) → t.Nodup → (∀ c ∈ t, N.testBit (l.idxOf c) = false) → psGo l N k t = (N ||| bitsOf l t, 0, 0)
  | [], N, k, _, _, _ => by simp [psGo, bitsOf]
  | c :: t, N, k, h1, h2, h3 => by
    have hc := h1 c List.mem_cons_self
    rw [psGo, if_pos hc, if_neg (by rw [h3 c List.mem_cons_self]; decide), psGo_mk l t _ _ (fun d hd => h1 d (List.mem_cons_of_mem _ hd)) (List.nodup_cons.1 h2).2 (fun d hd => ?_), bitsOf, Nat.or_assoc]
    rw [Nat.testBit_or, h3 d (List.mem_cons_of_mem _ hd), Bool.false_or, Nat.testBit_two_pow]
    have hne : d ≠ c := fun e => (List.nodup_cons.1 h2).1 (e ▸ hd)
    have := idx_ne hc hne
    rw [decide_eq_false (by omega)]
/-- The bytes of a text are as many whatever the order. -/
theorem wr_length_append (a b : List Int) : (wr (a ++ b)).length = (wr (b ++ a)).length := by
  rw [wr_append, wr_append, List.length_append, List.length_append]
  omega
theorem txt_size_eq (l : List Int) : (txt l).size = (wr l).length := by
  have h : (txt l).data.toList.length = (txt l).size := by simp
  rw [← h, txt_data]
/-- A text that is turned is read as the same set. -/
theorem parse_turned {l : List Int} (hsg : Signs l) {s : ByteArray} (hd : s ≠ dash) (h : (parseR l s).2.2 = 0) (k : Nat) :
    parseR l (txt ((charsOf s).drop k ++ (charsOf s).take k)) = parseR l s ∧ 0 < (charsOf s).length ∧ s.size ≤ 65536 := by
  unfold parseR at h ⊢
  by_cases h1 : 65536 < s.size
  · rw [if_pos h1] at h; cases h
  rw [if_neg h1] at h ⊢
  by_cases h2 : s.size = 0
  · rw [if_pos h2] at h; cases h
  rw [if_neg h2, if_neg hd] at h ⊢
  obtain ⟨e1, e2, e3, _⟩ := psGo_ok l _ _ _ h
  rw [e1]
  have hlet : ∀ c ∈ charsOf s, cls c = 4 := fun c hc => hsg.letter c (e2 c hc)
  have htx := text_letters s hlet
  have hpos := chars_pos (s := s) (by omega)
  have hsz : (txt ((charsOf s).drop k ++ (charsOf s).take k)).size = s.size := by
    rw [txt_size_eq, wr_length_append, List.take_append_drop, ← txt_size_eq, htx]
  have hmem : ∀ c, c ∈ (charsOf s).drop k ++ (charsOf s).take k → c ∈ charsOf s := by
    intro c hc
    rcases List.mem_append.1 hc with hc | hc
    · exact List.mem_of_mem_drop hc
    · exact List.mem_of_mem_take hc
  have hch : charsOf (txt ((charsOf s).drop k ++ (charsOf s).take k)) = (charsOf s).drop k ++ (charsOf s).take k := chars_txt _ (fun c hc => code_letter (hlet c (hmem c hc)))
  have hnd : ((charsOf s).drop k ++ (charsOf s).take k).Nodup := by
    have h0 : ((charsOf s).take k ++ (charsOf s).drop k).Nodup := by rw [List.take_append_drop]; exact e3
    exact (List.perm_append_comm.nodup_iff).1 h0
  have hne : txt ((charsOf s).drop k ++ (charsOf s).take k) ≠ dash := by
    intro e
    have h0 : charsOf dash = [45] := by decide +kernel
    rw [e, h0] at hch
    have := hlet 45 (hmem 45 (by rw [← hch]; simp))
    exact absurd this (by decide)
  refine ⟨?_, hpos, by omega⟩
  rw [hsz, if_neg h1, if_neg h2, if_neg hne, hch, psGo_mk l _ _ _ (fun c hc => e2 c (hmem c hc)) hnd (fun c _ => by simp), bitsOf_append, Nat.or_comm (bitsOf l ((charsOf s).drop k)), ← bitsOf_append, List.take_append_drop]
end Go.Proofs.YtginkcjhfdoodabDoor
