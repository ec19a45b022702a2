/- The bag by its iterator: what the statements' all answers. -/
import Derived.Test.YtenahcdmdhlieabBgj
import Derived.Maps.OwnIn
namespace Go.Proofs.Ytenahcdmdhlieab
open Go.RowKit Go.Shelf Go.Lib
attribute [local go_sem] Oper.semAt_some

/-- All blocks of cells lie av they lay. -/
def Cl (W W' : World) : Prop := ∀ (k : Nat) (cur : Array Value) (t : TypeId) (z : Nat × Nat), W.heap[k]? = some (.cells cur t z) → W'.heap[k]? = some (.cells cur t z)
theorem Cl.grown {W W' : World} {row : Option Nat} (hg : W.grownBy W' row) (hr : ∀ r, row = some r → ∃ o : Obj, W.heap[r]? = some o ∧ o.isCells = false) : Cl W W' := fun _ _ _ _ hk => (grownBy_keeps_cells hg hr hk rfl).trans hk
theorem Cl.row {W W' : World} (h : Cl W W') {base : Nat} {e : TypeId} {size : Nat} {v : Value} {n : Nat} {xs : List Value} (ho : W.ownsRow base e size v n xs) : W'.ownsRow base e size v n xs := by
  refine ⟨ho.1, ?_⟩
  rcases ho.2 with h1 | ⟨g, cap, cur, h1, h2, h3, h4⟩
  · exact .inl h1
  · exact .inr ⟨g, cap, cur, h1, h2, h _ _ _ _ h3, h4⟩
/-- The cells of datagrams, one behind the other. -/
def flG : List Gr → List (Option Addr × Nat) → List Value
  | x :: l, a :: v => gv x a.1 a.2 ++ flG l v
  | _, _ => []
theorem flG_len : ∀ (l : List Gr) (v : List (Option Addr × Nat)), v.length = l.length → (flG l v).length = l.length * 4
  | [], _, _ => by simp [flG]
  | _ :: _, [], h => by simp at h
  | x :: l, a :: v, h => by
    rw [flG, List.length_append, flG_len l v (by simpa using h)]
    simp [gv]
    omega
theorem flG_app : ∀ (l : List Gr) (v : List (Option Addr × Nat)) (x : Gr) (a : Option Addr × Nat), v.length = l.length → flG (l ++ [x]) (v ++ [a]) = flG l v ++ gv x a.1 a.2
  | [], [], x, a, _ => by simp [flG]
  | _ :: _, [], _, _, h => by simp at h
  | [], _ :: _, _, _, h => by simp at h
  | y :: l, b :: v, x, a, h => by
    rw [List.cons_append, List.cons_append, flG, flG_app l v x a (by simpa using h), flG, List.append_assoc]
theorem flG_get : ∀ (l : List Gr) (v : List (Option Addr × Nat)) (k : Nat) (x : Gr) (a : Option Addr × Nat), l[k]? = some x → v[k]? = some a → (flG l v)[k * 4]? = some (.int .i64 x.1) ∧ (flG l v)[k * 4 + 1]? = some (.int .i64 x.2.1) ∧ (flG l v)[k * 4 + 2]? = some (.int .i64 x.2.2.1) ∧ (flG l v)[k * 4 + 3]? = some (.slice a.1 x.2.2.2.length a.2)
  | [], _, k, x, a, h, _ => by simp at h
  | _ :: _, [], k, x, a, _, h => by simp at h
  | y :: l, b :: v, 0, x, a, h, h2 => by
    simp at h h2
    subst h h2
    exact ⟨rfl, rfl, rfl, rfl⟩
  | y :: l, b :: v, k + 1, x, a, h, h2 => by
    have ih := flG_get l v k x a (by simpa using h) (by simpa using h2)
    have e : ∀ j, (flG (y :: l) (b :: v))[j + 4]? = (flG l v)[j]? := fun j => by
      rw [flG, List.getElem?_append_right (by simp [gv])]
      simp [gv]
    rw [show (k + 1) * 4 = k * 4 + 4 by omega, show k * 4 + 4 + 1 = k * 4 + 1 + 4 by omega, show k * 4 + 4 + 2 = k * 4 + 2 + 4 by omega, show k * 4 + 4 + 3 = k * 4 + 3 + 4 by omega, e, e, e, e]
    exact ih
theorem Cl.of {W W' : World} (hb : Below W.heap.size W W') : Cl W W' := fun _ _ _ _ hk => (hb.block _ (lt_at hk)).trans hk
theorem gram_src {W : World} {b : Nat} {cs : Array Value} {t : TypeId} (h : W.heap[b]? = some (.cells cs t (0, 0))) : ∀ j u, cs.toList[j]? = some u → W.cell? ((⟨b, 0, none⟩ : Addr).add j) = some u := fun j u hj => by
  rw [add_pl, Nat.zero_add, cell_at h j, ← hj]
  simp
theorem own_blk {W : World} {base : Nat} {e : TypeId} {size : Nat} {v : Value} {n : Nat} {xs : List Value} (h : W.ownsRow base e size v n xs) : ∀ k, v.ownBlock = some k → base ≤ k ∧ ∃ cur, W.heap[k]? = some (.cells cur e (0, 0)) := by
  intro k hk
  rcases own_form h with ⟨rfl, _⟩ | ⟨g, cap, rfl, h1, _, _, _, h5⟩
  · cases hk
  · cases hk
    exact ⟨h1, h5⟩
theorem Kept.setCell {bx B m : Nat} {W : World} {B' j : Nat} {v : Value} (h1 : B' ≠ bx) (h2 : B' < B ∨ B + m ≤ B') : Kept bx B m W (W.setCell ⟨B', j, none⟩ v) :=
  ⟨by simp [World.setCell], Below.heap_setCell _ _ _ _ (Ne.symm h1), fun k h3 h4 => Below.heap_setCell _ _ _ _ (by show k ≠ B'; omega)⟩
theorem row_form {W : World} {base : Nat} {e : TypeId} {size : Nat} {v : Value} {n : Nat} {xs : List Value} (h : W.ownsRow base e size v n xs) : ∃ a c, v = .slice a n c := by
  rcases own_form h with ⟨e1, e2⟩ | ⟨g, cap, e1, _⟩
  · exact ⟨none, 0, by rw [e1, e2]⟩
  · exact ⟨_, cap, e1⟩
theorem nilF_no (f : Fn) (x y : Array Value) (w : World) : (binOp .eql 32 (.func f x y) .nilFunc).run Try.prog w = .ok (.bool false) w := by kernel_rfl
end Go.Proofs.Ytenahcdmdhlieab
