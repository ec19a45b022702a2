/- A set that is laid in a new box while a region draws its order; a slice of a slice. For every program. -/
import Derived.Test.YtginkcjhfdoodaaSla
namespace Go.Proofs.Ytginkcjhfdoodaa
open Go.RowKit
theorem step_slice {P : Program} {md : Region.Mode} {ops : Array Oper} {Q : Exit → Act → World → Prop} {X0 : Array Value} {val : Nat → Value} {J : World → Prop} {i : Nat} {o : Oper} (hi : ops[i]? = some o) (hg : GOk md ops X0 val i o) (t : TypeId) (x : Operand) (lo hi' : Option Operand) (p : Value) (lv hv : Option Value) (ho : o.op = .slice t x lo hi' none) (hx : rdo md ops X0 val i o x = some p)
    (hlo : lo.map (rdo md ops X0 val i o) = lv.map some) (hhi : hi'.map (rdo md ops X0 val i o) = hv.map some) (hr : ∀ w, J w → (Instr.sliceAt t p lv hv none).run P w = .ok (val i) w) : StepAt P md ops Q X0 val J J i o :=
  step_of hi hg fun a w hJ hS => by
    have e1 : lo.map a.eval = lv := by
      cases lo with
      | none => cases lv with
        | none => rfl
        | some v => cases hlo
      | some y => cases lv with
        | none => cases hlo
        | some v => simp only [Option.map_some, Option.some.injEq] at hlo ⊢; exact hS.eval hlo
    have e2 : hi'.map a.eval = hv := by
      cases hi' with
      | none => cases hv with
        | none => rfl
        | some v => cases hhi
      | some y => cases hv with
        | none => cases hhi
        | some v => simp only [Option.map_some, Option.some.injEq] at hhi ⊢; exact hS.eval hhi
    unfold Oper.wp execOp
    simp only [ho, hS.eval hx, e1, e2, Option.map_none, Sem.run_bind, hr w hJ, Result.andThen_ok, Sem.run_pure, Oper.upon_value]
    exact ⟨trivial, hJ⟩
theorem ext3_0 (a b c : Value) (W : World) : (Instr.extract (.tuple #[a, b, c]) 0).run Try.prog W = .ok a W := rfl
theorem ext3_1 (a b c : Value) (W : World) : (Instr.extract (.tuple #[a, b, c]) 1).run Try.prog W = .ok b W := rfl
theorem ext3_2 (a b c : Value) (W : World) : (Instr.extract (.tuple #[a, b, c]) 2).run Try.prog W = .ok c W := rfl
theorem stepG_new {G : Type} {md : Region.Mode} {ops : Array Oper} {Q : Exit → Act → World → Prop} {X0 : Array Value} {val : G → Nat → Value} {J : G → (Nat → Bool) → World → Prop} {i : Nat} {o : Oper} (hi : ops[i]? = some o) (hg : o.guard = none) (ho : o.op = .alloc 31)
    (h : ∀ g d W, J g d W → d i = false → (∀ j oj, ops[j]? = some oj → d j = true → ∀ k, bindsOn md oj k = true → d k = true) → ∃ g', (∀ j, d j = true → val g' j = val g j) ∧ val g' i = .pointer (some ⟨W.heap.size, 0, none⟩) ∧ J g' (fun j => if j = i then true else d j) (W.alloc (.cells (cells4 (fun _ => 0)) 31))) : StepG Try.prog md ops Q X0 val J i o := by
  intro g d a W hJ hun _ hcl _
  obtain ⟨g', h1, h2, h3⟩ := h g d W hJ hun hcl
  refine step_alloc hi hg ho ⟨g', h1, ?_, h3⟩
  rw [h2]
/-- While a set is laid in a new box; X: what else lies. -/
structure JX (X : World → Prop) (T lo : Nat) (g : Nat) (x6 x7 : Bool) (W : World) : Prop where
  p : X W
  lt : lo ≤ W.heap.size
  t : x6 = true → lo ≤ g ∧ Holds4 W g (if x7 = true then wd T else fun _ => 0)
theorem JX.new {X : World → Prop} (hX : ∀ W W', X W → Below W.heap.size W W' → X W') {T lo g : Nat} {x6 x7 : Bool} {W : World} (h : JX X T lo g x6 x7 W) (h7 : x7 = false) : JX X T lo W.heap.size true x7 (W.alloc (.cells (cells4 (fun _ => 0)) 31)) := by
  subst h7
  exact ⟨hX _ _ h.p (alloc_below W _), by have := h.lt; simp; omega, fun _ => ⟨h.lt, get_new rfl⟩⟩
theorem JX.store {X : World → Prop} {T lo g : Nat} {x7 : Bool} {W : World} (hX : ∀ W, X W → lo ≤ g → X (set4 W g T)) (h : JX X T lo g true x7 W) : JX X T lo g true true (set4 W g T) :=
  ⟨hX _ h.p (h.t rfl).1, by have := h.lt; simp [set4, World.setCell]; omega, fun _ => ⟨(h.t rfl).1, fin4 (h.t rfl).2 T⟩⟩
theorem JX.carry {X : World → Prop} (hX : ∀ W W', X W → Below W.heap.size W W' → X W') {T lo g : Nat} {x6 x7 : Bool} {W W' : World} (h : JX X T lo g x6 x7 W) (hb : Below W.heap.size W W') : JX X T lo g x6 x7 W' :=
  ⟨hX _ _ h.p hb, Nat.le_trans h.lt hb.size, fun e => ⟨(h.t e).1, (h.t e).2.carry hb⟩⟩
theorem below_set4 (W : World) (g T : Nat) : Below g W (set4 W g T) := below4 (Below.refl _ _) (Nat.le_refl _) T
end Go.Proofs.Ytginkcjhfdoodaa
