/- Rosters: the plain mathematics of the nodes' signs: for every text. -/
import Derived.Test.YtebpngapkkdifaaDoorCls
import Derived.Maps.OwnSet
namespace Go.Proofs.YtebpngapkkdifaaDoor
open Go.Maps

/-- The characters from a byte on, and of the whole text. -/
def charsFrom (s : ByteArray) (f p : Nat) : List Int := (startsFrom s f p).map (fun q => (rn s q : Int))
def charsOf (s : ByteArray) : List Int := charsFrom s s.size 0
theorem charsFrom_end (s : ByteArray) (f p : Nat) (h : ¬ p < s.size) : charsFrom s f p = [] := by rw [charsFrom, startsFrom_end s f p h]; rfl
theorem charsFrom_step (s : ByteArray) (f p : Nat) (h : p < s.size) : charsFrom s (f + 1) p = (rn s p : Int) :: charsFrom s f (p + wdt s p) := by rw [charsFrom, startsFrom_step s f p h]; rfl

/-- What Read does with the characters: the signs, the place, the error's number. -/
def rdGo : List Int → List Int → List Int × Int × Int
  | acc, [] => (acc, 0, 0)
  | acc, c :: t => if cls c = 4 then (if c ∈ acc then ([], acc.length, 42) else if acc.length < 100 then rdGo (acc ++ [c]) t else ([], acc.length, 2)) else ([], acc.length, 41)
def readR (s : ByteArray) : List Int × Int × Int := if 65536 < s.size then ([], 0, 2) else if s.size = 0 then ([], 0, 40) else rdGo [] (charsOf s)

/-- Signs of a roster. -/
structure Signs (l : List Int) : Prop where
  nodup : l.Nodup
  short : l.length ≤ 100
  letter : ∀ c ∈ l, cls c = 4
theorem signs_nil : Signs [] := ⟨List.nodup_nil, by simp, fun c h => by cases h⟩
theorem signs_snoc {l : List Int} (h : Signs l) {c : Int} (h1 : cls c = 4) (h2 : ¬ c ∈ l) (h3 : l.length < 100) : Signs (l ++ [c]) := by
  refine ⟨?_, by simp; omega, fun x hx => ?_⟩
  · rw [List.nodup_append]
    exact ⟨h.nodup, by simp, fun a ha b hb e => by simp at hb; subst hb; subst e; exact h2 ha⟩
  · rcases List.mem_append.1 hx with hx | hx
    · exact h.letter x hx
    · simp at hx; subst hx; exact h1
theorem rdGo_signs : ∀ (t acc : List Int), Signs acc → Signs (rdGo acc t).1
  | [], acc, h => h
  | c :: t, acc, h => by
    unfold rdGo
    by_cases h1 : cls c = 4
    · rw [if_pos h1]
      by_cases h2 : c ∈ acc
      · rw [if_pos h2]; exact signs_nil
      · rw [if_neg h2]
        by_cases h3 : acc.length < 100
        · rw [if_pos h3]; exact rdGo_signs t (acc ++ [c]) (signs_snoc h h1 h2 h3)
        · rw [if_neg h3]; exact signs_nil
    · rw [if_neg h1]; exact signs_nil
theorem readR_signs (s : ByteArray) : Signs (readR s).1 := by
  unfold readR
  split
  · exact signs_nil
  · split
    · exact signs_nil
    · exact rdGo_signs _ _ signs_nil
theorem cls_letter {c : Int} (h : cls c = 4) : 65 ≤ c ∧ c ≤ 129791 ∧ (c < 55296 ∨ 57343 < c) := by
  unfold cls at h
  repeat' split at h
  all_goals omega

/-- A map that tells of each sign its place. -/
structure MapOf (D : DataW Unit) (l : List Int) : Prop where
  isMap : IsMap D
  has : ∀ c : Int, Maps.has D (.int .i32 c) = decide (c ∈ l)
  at' : ∀ c ∈ l, ∀ z, D.atKey (.int .i32 c) z = .lit (.int .i64 (l.idxOf c))
theorem mapOf_nil : MapOf (.map []) [] := ⟨isMap_empty, fun c => rfl, fun c h => by cases h⟩
theorem mapOf_snoc {D : DataW Unit} {l : List Int} (h : MapOf D l) {c : Int} (hc : ¬ c ∈ l) : MapOf (D.put (.int .i32 c) (.lit (.int .i64 l.length))) (l ++ [c]) := by
  refine ⟨h.isMap.put _ _, fun x => ?_, fun x hx z => ?_⟩
  · by_cases e : x = c
    · subst e
      rw [has_put_same h.isMap (by trivial)]
      simp
    · rw [has_put_other (by simpa using e), h.has]
      simp [e]
  · by_cases e : x = c
    · subst e
      rw [atKey_put_same h.isMap (by trivial), List.idxOf_append, if_neg hc]
      simp
    · have hx2 : x ∈ l := by simpa [e] using hx
      rw [atKey_put_other (by simpa using e), h.at' x hx2, List.idxOf_append, if_pos hx2]
end Go.Proofs.YtebpngapkkdifaaDoor
