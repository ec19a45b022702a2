/- The words of a line, reckoned: plain mathematics. -/
import Derived.Test.YtibhljdiofglfabDoorKin
import Derived.Test.YtibhljdiofglfabDoorNum
import Derived.Test.YtibhljdiofglfabDoorLea
namespace Go.Proofs.YtibhljdiofglfabDoor
open Go.RowKit Go.Shelf

inductive Stp where
  | gap | stop
  | bad (e off : Nat)
  | word (k : Int) (sz : Nat)

/-- What begins at a place of a line. -/
def stepR (s : ByteArray) (p : Nat) : Stp :=
  if kindR (rn s p : Int) = -1 then .gap
  else if kindR (rn s p : Int) = -2 then .stop
  else if kindR (rn s p : Int) = 2 then (if 128 < (runR (s.extract p s.size)).2 then .bad 22 0 else .word 2 (runR (s.extract p s.size)).1)
  else if kindR (rn s p : Int) = 3 then (if numR (s.extract p (p + (runR (s.extract p s.size)).1)) = none then .bad 21 0 else .word 3 (runR (s.extract p s.size)).1)
  else if kindR (rn s p : Int) = 4 then (if (leadR (s.extract p s.size)).2.2 ≠ 0 then .bad (leadR (s.extract p s.size)).2.2 (starts (s.extract p (p + (leadR (s.extract p s.size)).2.1))).length else .word 4 (leadR (s.extract p s.size)).2.1)
  else if kindR (rn s p : Int) = 5 then .word 5 1
  else .bad 20 0

abbrev Tok := Int × ByteArray × Nat
/-- The words of a line from the place p on; the error, its column. -/
def cutAt (s : ByteArray) : Nat → Nat → Nat → Nat → List Tok → List Tok × Nat × Nat
  | 0, _, _, _, acc => (acc, 0, 0)
  | f + 1, p, nx, col, acc =>
    if ¬ p < s.size then (acc, 0, 0)
    else if p < nx then cutAt s f (p + wd s p) nx (col + 1) acc
    else match stepR s p with
      | .gap => cutAt s f (p + wd s p) nx (col + 1) acc
      | .stop => (acc, 0, 0)
      | .bad e off => (acc, e, col + 1 + off)
      | .word k sz => cutAt s f (p + wd s p) (p + sz) (col + 1) (acc ++ [(k, s.extract p (p + sz), col + 1)])
def cutR (s : ByteArray) : List Tok × Nat × Nat := cutAt s (s.size + 1) 0 0 0 []

theorem runAt_le (s : ByteArray) : ∀ (f p n : Nat), p ≤ s.size → (runAt s f p n).1 ≤ s.size
  | 0, p, n, h => h
  | f + 1, p, n, h => by
    unfold runAt
    split
    · exact Nat.le_refl _
    · rename_i hp
      split
      · exact runAt_le s f _ _ (wd_le s p (by omega))
      · exact h
theorem runR_le (s : ByteArray) : (runR s).1 ≤ s.size := runAt_le s _ _ _ (Nat.zero_le _)
theorem lead_le (s : ByteArray) : ∀ (f p : Nat) (acc : List UInt8), p ≤ s.size → (lead s f p acc).2.1 ≤ s.size
  | 0, p, acc, h => Nat.le_refl _
  | f + 1, p, acc, h => by
    by_cases hp : p < s.size
    case neg => rw [lead_end s _ p acc hp]; exact Nat.le_refl _
    by_cases c1 : byt s p = 34
    · rw [lead_quote s f p acc hp c1]; exact hp
    by_cases c2 : byt s p = 92
    · cases ho : esc (fun k => byt s (p + k)) with
      | none => rw [lead_none s f p acc hp c2 ho]; exact h
      | some x =>
        obtain ⟨l, n⟩ := x
        obtain ⟨k1, k2, k3, k4⟩ := esc_ok _ l n ho
        have := (k4 (n - 1) (by omega) (by omega)).1
        have := byt_in (s := s) (i := p + (n - 1)) (by omega)
        rw [lead_some s f p acc l n hp c2 ho]
        exact lead_le s f _ _ (by omega)
    by_cases hb : ctl (rn s p : Int) = true ∨ looseB s p = true
    · rw [lead_bad s f p acc hp c1 c2 hb]; exact h
    · rw [lead_char s f p acc hp c1 c2 hb]; exact lead_le s f _ _ (wd_le s p hp)
theorem leadR_le (s : ByteArray) : (leadR s).2.1 ≤ s.size := by
  unfold leadR
  split
  · rename_i h
    have : 0 < s.size := byt_in (by omega)
    exact lead_le s _ _ _ this
  · exact Nat.zero_le _

theorem cut_end (s : ByteArray) (f p nx col : Nat) (acc : List Tok) (h : ¬ p < s.size) : cutAt s (f + 1) p nx col acc = (acc, 0, 0) := by rw [cutAt, if_pos h]
theorem cut_skip (s : ByteArray) (f p nx col : Nat) (acc : List Tok) (h : p < s.size) (hn : p < nx) : cutAt s (f + 1) p nx col acc = cutAt s f (p + wd s p) nx (col + 1) acc := by rw [cutAt, if_neg (by omega), if_pos hn]
theorem cut_step (s : ByteArray) (f p nx col : Nat) (acc : List Tok) (h : p < s.size) (hn : ¬ p < nx) : cutAt s (f + 1) p nx col acc = (match stepR s p with
      | .gap => cutAt s f (p + wd s p) nx (col + 1) acc
      | .stop => (acc, 0, 0)
      | .bad e off => (acc, e, col + 1 + off)
      | .word k sz => cutAt s f (p + wd s p) (p + sz) (col + 1) (acc ++ [(k, s.extract p (p + sz), col + 1)])) := by rw [cutAt, if_neg (by omega), if_neg hn]
end Go.Proofs.YtibhljdiofglfabDoor
