/- Quoted texts: those of the rest of a line, and those of the text. -/
import Derived.Test.YtibhljdiofglfaaDoorRse
namespace Go.Proofs.YtibhljdiofglfaaDoor
open Go.RowKit Go.Shelf

theorem byt_tail (X : ByteArray) (a m k : Nat) (h : a + m = X.size) : byt (X.extract a (a + m)) k = byt X (a + k) := by
  have hsz : (X.extract a (a + m)).size = m := by simp; omega
  by_cases hk : k < m
  · exact byt_ext X a m k (by omega) hk
  · rw [byt, dif_neg (by omega), byt, dif_neg (by omega)]
theorem lead_shift (X : ByteArray) (a m : Nat) (h : a + m = X.size) : ∀ (f g q : Nat) (acc : List UInt8), m ≤ q + f → m ≤ q + g → (lead X g (a + q) acc).1 = (lead (X.extract a (a + m)) f q acc).1 ∧ (lead X g (a + q) acc).2.1 = a + (lead (X.extract a (a + m)) f q acc).2.1 ∧ (lead X g (a + q) acc).2.2 = (lead (X.extract a (a + m)) f q acc).2.2
  | f, g, q, acc, hf, hg => by
    have hsz : (X.extract a (a + m)).size = m := by simp; omega
    by_cases hq : q < m
    case neg =>
      rw [lead_end _ f q acc (by omega), lead_end X g (a + q) acc (by omega), hsz, ← h]
      exact ⟨rfl, rfl, rfl⟩
    obtain ⟨f, rfl⟩ : ∃ f', f = f' + 1 := ⟨f - 1, by omega⟩
    obtain ⟨g, rfl⟩ : ∃ g', g = g' + 1 := ⟨g - 1, by omega⟩
    have hd := dec_line X a m q (by omega) hq (.inl h)
    have hr : rn (X.extract a (a + m)) q = rn X (a + q) := by unfold rn; rw [hd]
    have hw : wd (X.extract a (a + m)) q = wd X (a + q) := by unfold wd; rw [hd]
    have hl : looseB (X.extract a (a + m)) q = looseB X (a + q) := by unfold looseB; rw [hr, hw]
    have hb := byt_tail X a m q h
    have he : esc (fun k => byt (X.extract a (a + m)) (q + k)) = esc (fun k => byt X (a + q + k)) := by
      congr 1
      funext k
      rw [byt_tail X a m (q + k) h, Nat.add_assoc]
    by_cases c1 : byt X (a + q) = 34
    · rw [lead_quote X g (a + q) acc (by omega) c1, lead_quote _ f q acc (by omega) (by rw [hb]; exact c1)]
      exact ⟨rfl, by dsimp only; omega, rfl⟩
    by_cases c2 : byt X (a + q) = 92
    · cases ho : esc (fun k => byt X (a + q + k)) with
      | none =>
        rw [lead_none X g (a + q) acc (by omega) c2 ho, lead_none _ f q acc (by omega) (by rw [hb]; exact c2) (he.trans ho)]
        exact ⟨rfl, rfl, rfl⟩
      | some x =>
        obtain ⟨l, n⟩ := x
        have hn := (esc_ok _ l n ho).1
        rw [lead_some X g (a + q) acc l n (by omega) c2 ho, lead_some _ f q acc l n (by omega) (by rw [hb]; exact c2) (he.trans ho), Nat.add_assoc]
        exact lead_shift X a m h f g (q + n) (acc ++ l) (by omega) (by omega)
    by_cases c3 : ctl (rn X (a + q) : Int) = true ∨ looseB X (a + q) = true
    · rw [lead_bad X g (a + q) acc (by omega) c1 c2 c3, lead_bad _ f q acc (by omega) (by rw [hb]; exact c1) (by rw [hb]; exact c2) (by rw [hr, hl]; exact c3)]
      exact ⟨rfl, rfl, rfl⟩
    · have hwp := wd_pos X (a + q)
      rw [lead_char X g (a + q) acc (by omega) c1 c2 c3, lead_char _ f q acc (by omega) (by rw [hb]; exact c1) (by rw [hb]; exact c2) (by rw [hr, hl]; exact c3), hr, hw, Nat.add_assoc]
      exact lead_shift X a m h f g (q + wd X (a + q)) _ (by omega) (by omega)
termination_by f => f
theorem ch_bytes {y : ByteArray} : ∀ (n q c : Nat), ChAt y q c → (∀ k, k < n → q + k < y.size ∧ byt y (q + k) < 128) → ChAt y (q + n) (c + n)
  | 0, q, c, h, _ => h
  | n + 1, q, c, h, hk => by
    obtain ⟨h1, h2⟩ := hk 0 (by omega)
    rw [Nat.add_zero] at h1 h2
    have e := (rn_asc y q h1 h2).2
    have hs := h.step h1
    rw [e] at hs
    have := ch_bytes n (q + 1) (c + 1) hs (fun k hkn => by have := hk (k + 1) (by omega); rw [show q + 1 + k = q + (k + 1) by omega]; exact this)
    rw [show q + (n + 1) = q + 1 + n by omega, show c + (n + 1) = c + 1 + n by omega]
    exact this
/-- Where a quoted text ends a character ends, or begins. -/
theorem lead_ch (y : ByteArray) : ∀ (f q c : Nat) (acc : List UInt8), ChAt y q c → ∃ c', ChAt y (lead y f q acc).2.1 c'
  | 0, q, c, acc, h => chAt_end y _ q c (Nat.le_refl _) h
  | f + 1, q, c, acc, h => by
    by_cases hq : q < y.size
    case neg =>
      rw [lead_end y _ q acc hq]
      exact chAt_end y _ q c (Nat.le_refl _) h
    by_cases c1 : byt y q = 34
    · rw [lead_quote y f q acc hq c1]
      have hs := h.step hq
      rw [(rn_asc y q hq (by omega)).2] at hs
      exact ⟨_, hs⟩
    by_cases c2 : byt y q = 92
    · cases ho : esc (fun k => byt y (q + k)) with
      | none =>
        rw [lead_none y f q acc hq c2 ho]
        exact ⟨c, h⟩
      | some x =>
        obtain ⟨l, n⟩ := x
        obtain ⟨k1, k2, k3, k4⟩ := esc_ok _ l n ho
        rw [lead_some y f q acc l n hq c2 ho]
        refine lead_ch y f (q + n) (c + n) _ (ch_bytes n q c h (fun k hk => ?_))
        by_cases k0 : k = 0
        · subst k0
          rw [Nat.add_zero]
          exact ⟨hq, by omega⟩
        · have := k4 k (by omega) hk
          exact ⟨byt_in (by omega), this.2⟩
    by_cases c3 : ctl (rn y q : Int) = true ∨ looseB y q = true
    · rw [lead_bad y f q acc hq c1 c2 c3]
      exact ⟨c, h⟩
    · rw [lead_char y f q acc hq c1 c2 c3]
      exact lead_ch y f _ _ _ (h.step hq)
end Go.Proofs.YtibhljdiofglfaaDoor
