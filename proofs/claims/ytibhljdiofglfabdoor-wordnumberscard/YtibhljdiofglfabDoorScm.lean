/- The words of a text, line by line: plain mathematics. -/
import Derived.Test.YtibhljdiofglfabDoorSpw
import Derived.Test.YtibhljdiofglfabDoorCutS
namespace Go.Proofs.YtibhljdiofglfabDoor
open Go.RowKit Go.Shelf

/-- How many words a line gives, its end with it; and their cells. -/
def lineN (x : ByteArray) : Nat := if (cutR x).1.length = 0 then 0 else (cutR x).1.length + 1
def lineT (ln : Nat) (x : ByteArray) : List Value := if (cutR x).1.length = 0 then [] else flatT ln (cutR x).1 ++ tokC 1 ⟨#[10]⟩ ln (((starts x).length + 1 : Nat) : Int)
def kkL : List ByteArray → Nat
  | [] => 0
  | x :: t => lineN x + kkL t
def xxL : Nat → List ByteArray → List Value
  | _, [] => []
  | n, x :: t => lineT (n + 1) x ++ xxL (n + 1) t
theorem kkL_snoc (x : ByteArray) : ∀ l : List ByteArray, kkL (l ++ [x]) = kkL l + lineN x
  | [] => by simp [kkL]
  | y :: l => by rw [List.cons_append, kkL, kkL_snoc x l, kkL]; omega
theorem xxL_snoc (x : ByteArray) : ∀ (n : Nat) (l : List ByteArray), xxL n (l ++ [x]) = xxL n l ++ lineT (n + l.length + 1) x
  | n, [] => by simp [xxL]
  | n, y :: l => by
    rw [List.cons_append, xxL, xxL_snoc x (n + 1) l, xxL, List.append_assoc, List.length_cons]
    congr 3
    omega
theorem cutAt_len (s : ByteArray) : ∀ (f p nx col : Nat) (acc : List Tok), (cutAt s f p nx col acc).1.length ≤ acc.length + f
  | 0, _, _, _, acc => by simp [cutAt]
  | f + 1, p, nx, col, acc => by
    by_cases h : p < s.size
    · by_cases hn : p < nx
      · rw [cut_skip s f p nx col acc h hn]
        have := cutAt_len s f (p + wd s p) nx (col + 1) acc
        omega
      · rw [cut_step s f p nx col acc h hn]
        cases hst : stepR s p with
        | gap => have := cutAt_len s f (p + wd s p) nx (col + 1) acc; dsimp only; omega
        | stop => dsimp only; omega
        | bad e off => dsimp only; omega
        | word k sz =>
          have := cutAt_len s f (p + wd s p) (p + sz) (col + 1) (acc ++ [(k, s.extract p (p + sz), col + 1)])
          simp at this
          dsimp only
          omega
    · rw [cut_end s f p nx col acc h]
      dsimp only
      omega
theorem cutR_len (x : ByteArray) : (cutR x).1.length ≤ x.size + 1 := by
  have := cutAt_len x (x.size + 1) 0 0 0 []
  simpa [cutR] using this
theorem kkL_le : ∀ l : List ByteArray, kkL l ≤ 2 * (l.map (fun x => x.size + 1)).sum
  | [] => by simp [kkL]
  | x :: l => by
    have := kkL_le l
    have h := cutR_len x
    have : lineN x ≤ x.size + 2 := by unfold lineN; split <;> omega
    rw [kkL, List.map_cons, List.sum_cons]
    omega
theorem lines_sum : ∀ (f : Nat) (s : ByteArray), s.size ≤ f → ((linesAux f s).map (fun x => x.size + 1)).sum = s.size + 1
  | 0, s, h => by simp [linesAux]
  | f + 1, s, h => by
    by_cases hn : nlAt s < 0
    · rw [lines_last hn]; simp
    · obtain ⟨n, e⟩ := Int.eq_ofNat_of_zero_le (show 0 ≤ nlAt s by omega)
      have hb := nl_bounds s
      have e1 : (s.extract 0 n).size = n := by rw [ByteArray.size_extract]; omega
      have e2 : (s.extract (n + 1) s.size).size = s.size - (n + 1) := by rw [ByteArray.size_extract]; omega
      rw [lines_more e, List.map_cons, List.sum_cons, lines_sum f _ (by omega), e1, e2]
      omega
theorem sum_prefix : ∀ {a b : List ByteArray}, a <+: b → (a.map (fun x => x.size + 1)).sum ≤ (b.map (fun x => x.size + 1)).sum := by
  rintro a b ⟨c, rfl⟩
  rw [List.map_append, List.sum_append]
  omega
theorem kk_pre {s : ByteArray} {pre : List ByteArray} (h : pre <+: linesOf s) : kkL pre ≤ 2 * (s.size + 1) := by
  have h1 := kkL_le pre
  have h2 := sum_prefix h
  have h3 := lines_sum s.size s (Nat.le_refl _)
  unfold linesOf at h2
  omega
theorem line_size {s : ByteArray} {pre : List ByteArray} {x : ByteArray} (h : pre ++ [x] <+: linesOf s) : x.size ≤ s.size ∧ pre.length ≤ s.size := by
  have h2 := sum_prefix h
  have h3 := lines_sum s.size s (Nat.le_refl _)
  unfold linesOf at h2
  rw [List.map_append, List.sum_append, List.map_cons, List.map_nil, List.sum_cons, List.sum_nil, h3] at h2
  have h4 : pre.length ≤ (pre.map (fun x => x.size + 1)).sum := by
    clear h h2 h3
    induction pre with
    | nil => simp
    | cons y t ih => rw [List.map_cons, List.sum_cons, List.length_cons]; omega
  omega
/-- The first line that is wrong, of these: how many are ahead of it, its error, its column. -/
def badL : List ByteArray → Option (Nat × Nat × Nat)
  | [] => none
  | x :: t => if (cutR x).2.1 ≠ 0 then some (0, (cutR x).2.1, (cutR x).2.2) else (badL t).map (fun r => (r.1 + 1, r.2))
theorem badL_snoc (x : ByteArray) : ∀ l : List ByteArray, badL l = none → badL (l ++ [x]) = if (cutR x).2.1 ≠ 0 then some (l.length, (cutR x).2.1, (cutR x).2.2) else none
  | [], _ => by simp [badL]
  | y :: l, h => by
    rw [badL] at h
    by_cases hy : (cutR y).2.1 ≠ 0
    · rw [if_pos hy] at h; cases h
    · rw [if_neg hy] at h
      have h2 : badL l = none := by simpa using h
      rw [List.cons_append, badL, if_neg hy, badL_snoc x l h2]
      split <;> simp
theorem badL_prefix : ∀ {a b : List ByteArray} {r : Nat × Nat × Nat}, a <+: b → badL a = some r → badL b = some r := by
  rintro a b r ⟨c, rfl⟩
  induction a generalizing r with
  | nil => intro h; cases h
  | cons y t ih =>
    intro h
    rw [badL] at h
    rw [List.cons_append, badL]
    by_cases hy : (cutR y).2.1 ≠ 0
    · rw [if_pos hy] at h ⊢; exact h
    · rw [if_neg hy] at h ⊢
      cases hb : badL t with
      | none => rw [hb] at h; cases h
      | some q =>
        rw [ih hb]
        rw [hb] at h
        exact h
end Go.Proofs.YtibhljdiofglfabDoor
