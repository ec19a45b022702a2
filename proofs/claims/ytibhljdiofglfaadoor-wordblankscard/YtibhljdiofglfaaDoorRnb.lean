/- Where the document's next ends: behind its place, within the text. -/
import Derived.Test.YtibhljdiofglfaaDoorRnx
import Derived.Test.YtibhljdiofglfaaDoorCutP
namespace Go.Proofs.YtibhljdiofglfaaDoor
open Go.RowKit Go.Shelf

/-- A text that is read to its quote ends behind its place. -/
theorem lead_gt (s : ByteArray) : ∀ (f p : Nat) (acc : List UInt8), (lead s f p acc).2.2 = 0 → p ≤ (lead s f p acc).2.1
  | 0, p, acc, h => by
    by_cases hp : p < s.size
    · unfold lead at h ⊢
      first | omega | simp_all
    · rw [lead_end s 0 p acc hp] at h
      simp at h
  | f + 1, p, acc, h => by
    by_cases hp : p < s.size
    · by_cases hq : byt s p = 34
      · rw [lead_quote s f p acc hp hq]
        show p ≤ p + 1
        omega
      · cases hpr : pieceR s p with
        | inl x =>
          obtain ⟨l, n⟩ := x
          obtain ⟨e, _, _, _⟩ := piece_ok s f p acc l n hp hq hpr
          rw [e] at h ⊢
          have := lead_gt s f (p + n) (acc ++ l) h
          omega
        | inr k =>
          obtain ⟨e, hk⟩ := piece_err s f p acc k hp hq hpr
          rw [e] at h
          exact absurd h hk
    · rw [lead_end s (f + 1) p acc hp] at h
      simp at h
theorem nx_bounds (s : ByteArray) (i E : Nat) (hi : i < s.size) (hE : LEnd s (i + 1) E) (h : (nxD s i E).2.2 = 0) : i < (nxD s i E).2.1 ∧ (nxD s i E).2.1 ≤ s.size := by
  have hw := wd_pos s i
  have hwl := wd_le s i hi
  have hEs := hE.2.1
  unfold nxD at h ⊢
  by_cases h1 : looseB s i = true ∨ cls (rn s i : Int) = 6
  · rw [if_pos h1] at h
    cases h
  rw [if_neg h1] at h ⊢
  have hrun : cls (rn s i : Int) = 3 ∨ cls (rn s i : Int) = 4 → i < runD s s.size i ∧ runD s s.size i ≤ s.size := fun hc => by
    have hlo : looseB s i = false := by
      cases e : looseB s i with
      | false => rfl
      | true => exact absurd (.inl e) h1
    obtain ⟨g, hg⟩ : ∃ g, s.size = g + 1 := ⟨s.size - 1, by omega⟩
    have h2 := runD_le s g (i + wd s i) hwl
    have h3 : runD s (g + 1) i = runD s g (i + wd s i) := runD_on s g i hi hlo hc
    rw [← hg] at h3
    rw [h3]
    omega
  by_cases h4 : cls (rn s i : Int) = 4
  · rw [if_pos h4] at h ⊢
    by_cases hc : 128 < (starts (s.extract i (runD s s.size i))).length
    · rw [if_pos hc] at h
      cases h
    · rw [if_neg hc]
      exact hrun (.inr h4)
  rw [if_neg h4] at h ⊢
  by_cases h3 : cls (rn s i : Int) = 3
  · rw [if_pos h3] at h ⊢
    cases hv : numR (s.extract i (runD s s.size i)) with
    | none =>
      rw [hv] at h
      cases h
    | some v => exact hrun (.inl h3)
  rw [if_neg h3] at h ⊢
  by_cases h34 : byt s i = 34
  · rw [if_pos h34] at h ⊢
    have h5 := lead_gt (s.extract 0 E) E (i + 1) [] h
    have hsz : (s.extract 0 E).size = E := by simp; omega
    have h6 := lead_le (s.extract 0 E) E (i + 1) [] (by have := hE.1; omega)
    dsimp only
    omega
  · rw [if_neg h34]
    dsimp only
    omega
end Go.Proofs.YtibhljdiofglfaaDoor
