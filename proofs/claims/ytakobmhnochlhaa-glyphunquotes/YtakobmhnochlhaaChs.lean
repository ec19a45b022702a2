/- What glyph.Chars and glyph.Plain answer: at every text. -/
import Derived.Test.YtakobmhnochlhaaItD
import Derived.Maps.AppendAt
namespace Go.Proofs.Ytakobmhnochlhaa
open Go.RowKit Go.Shelf
attribute [local go_sem] Oper.semAt_some

/-- The cells of a list of characters. -/
def flat (s : ByteArray) : List Nat → List Value
  | [] => []
  | p :: r => (chC s p).toList ++ flat s r
theorem flat_append (s : ByteArray) : ∀ a b : List Nat, flat s (a ++ b) = flat s a ++ flat s b
  | [], _ => rfl
  | p :: r, b => by simp [flat, flat_append s r b]
theorem flat_length (s : ByteArray) : ∀ a : List Nat, (flat s a).length = a.length * 4
  | [] => rfl
  | p :: r => by simp [flat, flat_length s r, chC]; omega
theorem flat_get (s : ByteArray) : ∀ (a : List Nat) (i j p : Nat), a[i]? = some p → j < 4 → (flat s a)[i * 4 + j]? = (chC s p)[j]?
  | [], _, _, _, h, _ => by simp at h
  | q :: r, 0, j, p, h, hj => by
    simp at h; subst h
    simp only [flat, Nat.zero_mul, Nat.zero_add]
    rw [List.getElem?_append_left (by simp [chC]; omega)]
    simp
  | q :: r, i + 1, j, p, h, hj => by
    simp only [flat]
    rw [List.getElem?_append_right (by simp [chC]; omega)]
    have e : (i + 1) * 4 + j - (chC s q).toList.length = i * 4 + j := by simp [chC]; omega
    rw [e]
    exact flat_get s r i j p (by simpa using h) hj

theorem ownsRow_base {w : World} {base base' : Nat} {e : TypeId} {size : Nat} {v : Value} {n : Nat} {xs : List Value} (h : w.ownsRow base e size v n xs) (hle : base' ≤ base) : w.ownsRow base' e size v n xs := by
  obtain ⟨h1, h2⟩ := h
  refine ⟨h1, ?_⟩
  rcases h2 with h2 | ⟨g, cap, cur, h3, h4, h5⟩
  · exact .inl h2
  · exact .inr ⟨g, cap, cur, h3, Nat.le_trans hle h4, h5⟩
theorem ownsRow_block {w : World} {base : Nat} {e : TypeId} {size : Nat} {v : Value} {n : Nat} {xs : List Value} (h : w.ownsRow base e size v n xs) : ∀ g, v.ownBlock = some g → base ≤ g ∧ ∃ cur, w.heap[g]? = some (.cells cur e (0, 0)) := by
  intro g hg
  rcases h.2 with ⟨rfl, _⟩ | ⟨g', cap, cur, rfl, h4, h5, _⟩
  · cases hg
  · cases hg
    exact ⟨h4, cur, h5⟩
/-- A variable that holds a slice that the call owns: whatever is no cells may turn. -/
theorem rowBox_own {β : Type} (n0 B : Nat) (t e : TypeId) (size : Nat) (k : β → Nat) (xs : β → List Value) : Own (fun s W => ∃ v, Boxed W B t v ∧ W.ownsRow n0 e size v (k s) (xs s)) := by
  rintro s X Y row ⟨v, hb, ho⟩ hg hr
  refine ⟨v, boxed_own B t (fun _ : Unit => v) () X Y row hb hg hr, ho.kept hg ?_⟩
  cases hv : v.ownBlock with
  | none => exact .inl rfl
  | some g =>
    refine .inr (fun e' => ?_)
    obtain ⟨o, h1, h2⟩ := hr g e'.symm
    obtain ⟨_, cur, h3⟩ := ownsRow_block ho g hv
    rw [h1] at h3
    cases h3
    cases h2

theorem ownsRow_form {w : World} {base : Nat} {e : TypeId} {size : Nat} {v : Value} {n : Nat} {xs : List Value} (h : w.ownsRow base e size v n xs) : ∃ ad cap, v = .slice ad n cap ∧ (0 < n → ∃ g, ad = some ⟨g, 0, none⟩ ∧ base ≤ g ∧ g < w.heap.size ∧ n ≤ cap ∧ ∀ j u, xs[j]? = some u → w.cell? ⟨g, j, none⟩ = some u) := by
  obtain ⟨h1, h2⟩ := h
  rcases h2 with ⟨rfl, rfl⟩ | ⟨g, cap, cur, rfl, h4, h5, h6, h7, h8, h9⟩
  · exact ⟨none, 0, rfl, fun h => absurd h (by omega)⟩
  · refine ⟨some ⟨g, 0, none⟩, cap, rfl, fun _ => ⟨g, rfl, h4, (Array.getElem?_eq_some_iff.1 h5).1, h6, fun j u hj => ?_⟩⟩
    rw [cell_of h5 j, ← hj, ← h9, List.getElem?_take]
    have hjl : j < n * size := by have := (List.getElem?_eq_some_iff.1 hj).1; omega
    rw [if_pos hjl, Array.getElem?_toList]
theorem rowBox_kept {W w1 : World} {n0 B : Nat} {t e : TypeId} {size k : Nat} {v : Value} {xs : List Value} {tmp : Obj} (hv : Boxed W B t v) (hrow : W.ownsRow n0 e size v k xs) (hB : B < n0) (hgrow : (W.alloc tmp).grownBy w1 v.ownBlock) : Boxed w1 B t v :=
  (hv.alloc tmp).kept hgrow (fun e' => by have := (ownsRow_block hrow B e'.symm).1; omega)
theorem infoChar : (Try.prog.info? 31).map (fun i => (i.zero, i.size, i.bytes)) = some (some (.agg #[.int .i32 0, .int .i64 0, .int .i64 0, .bool false]), 4, 32) := by kernel_rfl

theorem four_new (W : World) (a b c d : Value) (t : TypeId) : ∀ j u, [a, b, c, d][j]? = some u → (W.alloc (.cells #[a, b, c, d] t)).cell? ((⟨W.heap.size, 0, none⟩ : Addr).add j) = some u := by
  intro j u h
  have hg : (W.alloc (.cells #[a, b, c, d] t)).heap[W.heap.size]? = some (.cells #[a, b, c, d] t) := get_new rfl
  have ha : (⟨W.heap.size, 0, none⟩ : Addr).add j = ⟨W.heap.size, j, none⟩ := by unfold Addr.add; split <;> simp_all
  rw [ha, cell_of hg j, ← h]
  simp

/-- No byte is loose. -/
def plainB (s : ByteArray) : Bool := (starts s).all (fun p => !looseB s p)

end Go.Proofs.Ytakobmhnochlhaa
