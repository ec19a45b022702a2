/- The document's Scan, reckoned: plain mathematics. -/
import Derived.Test.YtibhljdiofglfaaDoorRnb
import Derived.Test.YtibhljdiofglfaaDoorScp
namespace Go.Proofs.YtibhljdiofglfaaDoor
open Go.RowKit Go.Shelf

/-- Where the line ends. -/
def le10 (s : ByteArray) : Nat → Nat → Nat
  | 0, p => p
  | f + 1, p => if p < s.size ∧ byt s p ≠ 10 then le10 s f (p + 1) else p
theorem le10_end (s : ByteArray) : ∀ (f p : Nat), p ≤ s.size → s.size ≤ p + f → LEnd s p (le10 s f p)
  | 0, p, h, k => ⟨Nat.le_refl _, h, fun j a b => by rw [le10] at b; omega, .inl (by rw [le10]; omega)⟩
  | f + 1, p, h, k => by
    rw [le10]
    split
    · rename_i hc
      have ih := le10_end s f (p + 1) (by omega) (by omega)
      refine ⟨Nat.le_of_succ_le ih.1, ih.2.1, fun j a b => ?_, ih.2.2.2⟩
      by_cases e : j = p
      · rw [e]; exact hc.2
      · exact ih.2.2.1 j (by omega) b
    · rename_i hc
      refine ⟨Nat.le_refl _, h, fun j a b => by omega, ?_⟩
      by_cases q : p < s.size
      · right
        by_cases e : byt s p = 10
        · exact e
        · exact absurd ⟨q, e⟩ hc
      · left; omega
def LE (s : ByteArray) (p : Nat) : Nat := le10 s s.size p
theorem le_end (s : ByteArray) (p : Nat) (h : p ≤ s.size) : LEnd s p (LE s p) := le10_end s s.size p h (by omega)
theorem LEnd.uniq {s : ByteArray} {p E E' : Nat} (h : LEnd s p E) (h' : LEnd s p E') : E = E' := by
  obtain ⟨a, b, c, d⟩ := h
  obtain ⟨a', b', c', d'⟩ := h'
  rcases Nat.lt_trichotomy E E' with q | q | q
  · rcases d with d | d
    · omega
    · exact absurd d (c' E a q)
  · exact q
  · rcases d' with d' | d'
    · omega
    · exact absurd d' (c E' a' q)
theorem nx_le (s : ByteArray) (i E : Nat) (hi : i < s.size) (hE : LEnd s (i + 1) E) : (nxD s i E).2.1 ≤ s.size := by
  have hwl := wd_le s i hi
  have h1 := (runD_le s s.size i (by omega)).2
  have hsz : (s.extract 0 E).size = E := by have := hE.2.1; simp; omega
  have h6 := lead_le (s.extract 0 E) E (i + 1) [] (by have := hE.1; omega)
  have h7 := hE.2.1
  unfold nxD
  split
  · dsimp only; omega
  split
  · split <;> (dsimp only; omega)
  split
  · split <;> (dsimp only; omega)
  split <;> (dsimp only; omega)
abbrev Res := List Fou ⊕ (Nat × Nat × Nat)
/-- How many characters lie between. -/
def cnt (s : ByteArray) (a b : Nat) : Nat := (starts (s.extract a b)).length
def scD (s : ByteArray) : Nat → Nat → Nat → Nat → Bool → List Fou → Res
  | 0, _, _, _, _, l => .inl l
  | f + 1, i, ln, fr, so, l =>
    if s.size < i then .inl l
    else if i = s.size ∨ byt s i = 10 then scD s f (i + 1) (ln + 1) (i + 1) false (if so = true then l ++ [(1, ⟨#[10]⟩, (ln : Int), ((cnt s fr i + 1 : Nat) : Int))] else l)
    else if byt s i = 9 ∨ byt s i = 13 ∨ byt s i = 32 then scD s f (i + 1) ln fr so l
    else if byt s i = 35 then scD s f (LE s i) ln fr so l
    else if (nxD s i (LE s (i + 1))).2.2 = 0 then scD s f (nxD s i (LE s (i + 1))).2.1 ln fr true (l ++ [(((nxD s i (LE s (i + 1))).1 : Int), s.extract i (nxD s i (LE s (i + 1))).2.1, (ln : Int), ((cnt s fr i + 1 : Nat) : Int))])
    else .inr ((nxD s i (LE s (i + 1))).2.2, (plc s (nxD s i (LE s (i + 1))).2.1).1, cnt s (plc s (nxD s i (LE s (i + 1))).2.1).2 (nxD s i (LE s (i + 1))).2.1 + 1)
section
variable (s : ByteArray) (f i ln fr : Nat) (so : Bool) (l : List Fou)
theorem sc_end (h : s.size < i) : scD s (f + 1) i ln fr so l = .inl l := by rw [scD, if_pos h]
theorem sc_eol (h : ¬ s.size < i) (h1 : i = s.size ∨ byt s i = 10) : scD s (f + 1) i ln fr so l = scD s f (i + 1) (ln + 1) (i + 1) false (if so = true then l ++ [(1, ⟨#[10]⟩, (ln : Int), ((cnt s fr i + 1 : Nat) : Int))] else l) := by rw [scD, if_neg h, if_pos h1]
theorem sc_gap (h : i < s.size) (h2 : byt s i = 9 ∨ byt s i = 13 ∨ byt s i = 32) : scD s (f + 1) i ln fr so l = scD s f (i + 1) ln fr so l := by
  rw [scD, if_neg (by omega), if_neg (by rintro (e | e) <;> omega), if_pos h2]
theorem sc_rem (h : i < s.size) (h2 : byt s i = 35) : scD s (f + 1) i ln fr so l = scD s f (LE s i) ln fr so l := by
  rw [scD, if_neg (by omega), if_neg (by rintro (e | e) <;> omega), if_neg (by rintro (e | e | e) <;> omega), if_pos h2]
theorem sc_word (h : i < s.size) (h1 : byt s i ≠ 10) (h2 : ¬ (byt s i = 9 ∨ byt s i = 13 ∨ byt s i = 32)) (h3 : byt s i ≠ 35) (h4 : (nxD s i (LE s (i + 1))).2.2 = 0) : scD s (f + 1) i ln fr so l = scD s f (nxD s i (LE s (i + 1))).2.1 ln fr true (l ++ [(((nxD s i (LE s (i + 1))).1 : Int), s.extract i (nxD s i (LE s (i + 1))).2.1, (ln : Int), ((cnt s fr i + 1 : Nat) : Int))]) := by
  rw [scD, if_neg (by omega), if_neg (by rintro (e | e) <;> omega), if_neg h2, if_neg h3, if_pos h4]
theorem sc_err (h : i < s.size) (h1 : byt s i ≠ 10) (h2 : ¬ (byt s i = 9 ∨ byt s i = 13 ∨ byt s i = 32)) (h3 : byt s i ≠ 35) (h4 : (nxD s i (LE s (i + 1))).2.2 ≠ 0) : scD s (f + 1) i ln fr so l = .inr ((nxD s i (LE s (i + 1))).2.2, (plc s (nxD s i (LE s (i + 1))).2.1).1, cnt s (plc s (nxD s i (LE s (i + 1))).2.1).2 (nxD s i (LE s (i + 1))).2.1 + 1) := by
  rw [scD, if_neg (by omega), if_neg (by rintro (e | e) <;> omega), if_neg h2, if_neg h3, if_neg h4]
end
end Go.Proofs.YtibhljdiofglfaaDoor
