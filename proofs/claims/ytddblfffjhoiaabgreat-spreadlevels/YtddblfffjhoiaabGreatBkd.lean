/- slices.Equal of notices, Same, New, alive: what they answer. -/
import Derived.Test.YtddblfffjhoiaabGreatBkc
namespace Go.Proofs.YtddblfffjhoiaabGreat
open Go.RowKit Go.Shelf

theorem bin_neqn {x y : Operand} {w : World} (o t k o' t' k' : Int) : binRun Tryz.prog .neq 61 x y (nt o t k) (nt o' t' k') w = .ok (.bool (!decide ((o, t, k) = (o', t', k')))) w := by
  unfold binRun nt
  by_cases h : o = o'
  · by_cases h1 : t = t'
    · by_cases h2 : k = k' <;> go_simp
    · go_simp
  · go_simp
theorem take_eq_step {α : Type} {l m : List α} {k : Nat} {x y : α} (h : l.take k = m.take k) (hx : l[k]? = some x) (hy : m[k]? = some y) (e : x = y) : l.take (k + 1) = m.take (k + 1) := by
  rw [List.take_add_one, List.take_add_one, h, hx, hy, e]
theorem take_ne {α : Type} {l m : List α} {k : Nat} {x y : α} (hx : l[k]? = some x) (hy : m[k]? = some y) (e : x ≠ y) : l ≠ m := fun q => by
  subst q
  rw [hx] at hy
  exact e (Option.some.inj hy)
end Go.Proofs.YtddblfffjhoiaabGreat
