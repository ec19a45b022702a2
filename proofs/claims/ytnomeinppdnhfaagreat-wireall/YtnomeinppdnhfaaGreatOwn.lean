/- Rows that a call owns: what turns them, and what does not. -/
import Derived.Test.YtnomeinppdnhfaaGreatOpn
import Derived.Test.YtnomeinppdnhfaaGreatIdm
import Derived.Maps.AppendAt
import Derived.Maps.OwnIn
import Derived.OwnWalk
import Derived.RangeFuncBox
import Derived.RangeFuncNested
namespace Go.Proofs.YtnomeinppdnhfaaGreat
open Go.RowKit Go.Shelf Go.Lib

theorem set_get {W : World} {B : Nat} {cs : Array Value} {t : TypeId} {z : Nat × Nat} (j : Nat) (v : Value) (h : W.heap[B]? = some (.cells cs t z)) : (W.setCell ⟨B, j, none⟩ v).heap[B]? = some (.cells (cs.setIfInBounds j v) t z) := by
  simp [World.setCell, Array.getElem?_modify, h]
theorem set_other {W : World} {B B' j : Nat} {v : Value} (h : B ≠ B') : (W.setCell ⟨B', j, none⟩ v).heap[B]? = W.heap[B]? := Below.heap_setCell _ _ _ _ h
theorem cell_of {W : World} {B : Nat} {cs : Array Value} {t : TypeId} {z : Nat × Nat} (h : W.heap[B]? = some (.cells cs t z)) (j : Nat) : W.cell? ⟨B, j, none⟩ = cs[j]? := by simp [World.cell?, h]
theorem frozen_of {W : World} {B : Nat} {cs : Array Value} {t : TypeId} (h : W.heap[B]? = some (.cells cs t (0, 0))) (j : Nat) : W.frozen? ⟨B, j, none⟩ = false := by simp [World.frozen?, h]
theorem ownsRow_block {w : World} {base : Nat} {e : TypeId} {size : Nat} {v : Value} {n : Nat} {xs : List Value} (h : w.ownsRow base e size v n xs) : ∀ g, v.ownBlock = some g → base ≤ g ∧ ∃ cur, w.heap[g]? = some (.cells cur e (0, 0)) := by
  intro g hg
  rcases h.2 with ⟨rfl, _⟩ | ⟨g', cap, cur, rfl, h4, h5, _⟩
  · cases hg
  · cases hg
    exact ⟨h4, cur, h5⟩
theorem ownsRow_base {w : World} {base base' : Nat} {e : TypeId} {size : Nat} {v : Value} {n : Nat} {xs : List Value} (h : w.ownsRow base e size v n xs) (hle : base' ≤ base) : w.ownsRow base' e size v n xs := by
  obtain ⟨h1, h2⟩ := h
  refine ⟨h1, ?_⟩
  rcases h2 with h2 | ⟨g, cap, cur, h3, h4, h5⟩
  · exact .inl h2
  · exact .inr ⟨g, cap, cur, h3, Nat.le_trans hle h4, h5⟩
theorem ownsRow_putObj {w : World} {base : Nat} {e : TypeId} {size : Nat} {v : Value} {n k : Nat} {xs : List Value} {o : Obj} (h : w.ownsRow base e size v n xs) (o' : Obj) (hk : w.heap[k]? = some o) (ho : o.isCells = false) : (w.putObj k o').ownsRow base e size v n xs := by
  obtain ⟨h1, h2⟩ := h
  refine ⟨h1, ?_⟩
  rcases h2 with h2 | ⟨g, cap, cur, h3, h4, h5, h6⟩
  · exact .inl h2
  · refine .inr ⟨g, cap, cur, h3, h4, (World.putObj_heap_other (fun e => ?_)).trans h5, h6⟩
    subst e
    rw [hk] at h5
    cases h5
    cases ho
theorem ownsRow_set {w : World} {base : Nat} {e : TypeId} {size : Nat} {v : Value} {n : Nat} {xs : List Value} {b j : Nat} (h : w.ownsRow base e size v n xs) (hb : ∀ g, v.ownBlock = some g → g ≠ b) (u : Value) : (w.setCell ⟨b, j, none⟩ u).ownsRow base e size v n xs := by
  obtain ⟨h1, h2⟩ := h
  refine ⟨h1, ?_⟩
  rcases h2 with h2 | ⟨g, cap, cur, h3, h4, h5, h6⟩
  · exact .inl h2
  · subst h3
    exact .inr ⟨g, cap, cur, rfl, h4, (set_other (hb g rfl)).trans h5, h6⟩
theorem ownsRow_succ {w : World} {base : Nat} {e : TypeId} {size : Nat} {v : Value} {n : Nat} {xs : List Value} (h : w.ownsRow base e size v (n + 1) xs) : ∃ g cap, v = .slice (some ⟨g, 0, none⟩) (n + 1) cap := by
  rcases h.2 with ⟨_, h⟩ | ⟨g, cap, cur, rfl, _⟩
  · omega
  · exact ⟨g, cap, rfl⟩
/-- A variable that holds a slice that the call owns, and what is said of the slice itself: whatever is no cells may turn. -/
theorem rowBoxP_own {β : Type} (n0 B : Nat) (t e : TypeId) (size : Nat) (k : β → Nat) (xs : β → List Value) (p : Value → Prop) : Own (fun s W => ∃ v, Boxed W B t v ∧ W.ownsRow n0 e size v (k s) (xs s) ∧ p v) := by
  rintro s X Y row ⟨v, hb, ho, hp⟩ hg hr
  refine ⟨v, boxed_own B t (fun _ : Unit => v) () X Y row hb hg hr, ho.kept hg ?_, hp⟩
  cases hv : v.ownBlock with
  | none => exact .inl rfl
  | some g =>
    refine .inr (fun e' => ?_)
    obtain ⟨o, h1, h2⟩ := hr g e'.symm
    obtain ⟨_, cur, h3⟩ := ownsRow_block ho g hv
    rw [h1] at h3
    cases h3
    cases h2
theorem one_new (W : World) (a : Value) (t : TypeId) : ∀ j u, [a][j]? = some u → (W.alloc (.cells #[a] t)).cell? ((⟨W.heap.size, 0, none⟩ : Addr).add j) = some u := by
  intro j u h
  have hg : (W.alloc (.cells #[a] t)).heap[W.heap.size]? = some (.cells #[a] t) := get_new rfl
  have ha : (⟨W.heap.size, 0, none⟩ : Addr).add j = ⟨W.heap.size, j, none⟩ := by unfold Addr.add; split <;> simp_all
  rw [ha, cell_of hg j, ← h]
  simp
theorem infoInt : (Tryz.prog.info? 3).map (fun i => (i.zero, i.size, i.bytes)) = some (some (.int .i64 0), 1, 8) := by kernel_rfl
theorem ownsRow_form {w : World} {base : Nat} {e : TypeId} {size : Nat} {v : Value} {n : Nat} {xs : List Value} (h : w.ownsRow base e size v n xs) : ∃ ad cap, v = .slice ad n cap ∧ (0 < n → ∃ g, ad = some ⟨g, 0, none⟩ ∧ base ≤ g ∧ g < w.heap.size ∧ n ≤ cap ∧ ∀ j u, xs[j]? = some u → w.cell? ⟨g, j, none⟩ = some u) := by
  obtain ⟨h1, h2⟩ := h
  rcases h2 with ⟨rfl, rfl⟩ | ⟨g, cap, cur, rfl, h4, h5, h6, h7, h8, h9⟩
  · exact ⟨none, 0, rfl, fun h => absurd h (by omega)⟩
  · refine ⟨some ⟨g, 0, none⟩, cap, rfl, fun _ => ⟨g, rfl, h4, (Array.getElem?_eq_some_iff.1 h5).1, h6, fun j u hj => ?_⟩⟩
    rw [cell_of h5 j, ← hj, ← h9, List.getElem?_take]
    have hjl : j < n * size := by have := (List.getElem?_eq_some_iff.1 hj).1; omega
    rw [if_pos hjl, Array.getElem?_toList]
theorem intsV_get {l : List Nat} {j x : Nat} (h : l[j]? = some x) : (intsV l)[j]? = some (.int .i64 (x : Int)) := by simp [intsV, h]
/-- The slice v holds these numbers. -/
def RdL (w : World) (v : Value) (l : List Nat) : Prop := ∃ ad cap, v = .slice ad l.length cap ∧ ∀ j x, l[j]? = some x → ∃ g off, ad = some ⟨g, off, none⟩ ∧ g < w.heap.size ∧ l.length ≤ cap ∧ w.cell? ⟨g, off + j, none⟩ = some (.int .i64 ((x : Nat) : Int))
theorem RdL.of {w : World} {base : Nat} {v : Value} {l : List Nat} (h : w.ownsRow base 3 1 v l.length (intsV l)) : RdL w v l := by
  obtain ⟨ad, cap, rfl, hf⟩ := ownsRow_form h
  refine ⟨ad, cap, rfl, fun j x hj => ?_⟩
  obtain ⟨g, rfl, _, h2, h3, h4⟩ := hf (by have := (List.getElem?_eq_some_iff.1 hj).1; omega)
  exact ⟨g, 0, rfl, h2, h3, by rw [Nat.zero_add]; exact h4 j _ (intsV_get hj)⟩
theorem RdL.carry {w w' : World} {v : Value} {l : List Nat} (h : RdL w v l) (hb : Below w.heap.size w w') : RdL w' v l := by
  obtain ⟨ad, cap, rfl, hf⟩ := h
  refine ⟨ad, cap, rfl, fun j x hj => ?_⟩
  obtain ⟨g, off, rfl, h2, h3, h4⟩ := hf j x hj
  exact ⟨g, off, rfl, Nat.lt_of_lt_of_le h2 hb.size, h3, (hb.cell (p := ⟨g, off + j, none⟩) h2).trans h4⟩
theorem rdl_own {β : Type} (v : Value) (l : List Nat) : Own (fun (_ : β) W => RdL W v l) := by
  rintro s X Y row ⟨ad, cap, rfl, hf⟩ hg hr
  refine ⟨ad, cap, rfl, fun j x hj => ?_⟩
  obtain ⟨g, off, rfl, h2, h3, h4⟩ := hf j x hj
  exact ⟨g, off, rfl, Nat.lt_of_lt_of_le h2 hg.size, h3, cell_kept h4 hg hr⟩
end Go.Proofs.YtnomeinppdnhfaaGreat
