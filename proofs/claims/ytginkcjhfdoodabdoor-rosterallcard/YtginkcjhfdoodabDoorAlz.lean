/- Lists of rosters that grow, in a region that draws its order; a set that is laid in a new box there; a slice of texts that is handed in. -/
import Derived.Test.YtginkcjhfdoodabDoorSla
import Derived.Test.YtginkcjhfdoodabDoorRfa
import Derived.Maps.AppendAt
import Derived.Test.YtginkcjhfdoodabDoorStg
import Derived.Test.YtginkcjhfdoodabDoorOpn
import Derived.Test.YtginkcjhfdoodabDoorRows
import Derived.ProofKit
import Derived.OpenShut
import Derived.ChangeOld
import Derived.Below
import Derived.SliceStrings
namespace Go.Proofs.YtginkcjhfdoodabDoor
section
open Go.RowKit
theorem step_slice {P : Program} {md : Region.Mode} {ops : Array Oper} {Q : Exit → Act → World → Prop} {X0 : Array Value} {val : Nat → Value} {J : World → Prop} {i : Nat} {o : Oper} (hi : ops[i]? = some o) (hg : GOk md ops X0 val i o) (t : TypeId) (x : Operand) (lo hi' : Option Operand) (p : Value) (lv hv : Option Value) (ho : o.op = .slice t x lo hi' none) (hx : rdo md ops X0 val i o x = some p)
    (hlo : lo.map (rdo md ops X0 val i o) = lv.map some) (hhi : hi'.map (rdo md ops X0 val i o) = hv.map some) (hr : ∀ w, J w → (Instr.sliceAt t p lv hv none).run P w = .ok (val i) w) : StepAt P md ops Q X0 val J J i o :=
  step_of hi hg fun a w hJ hS => by
    have e1 : lo.map a.eval = lv := by
      cases lo with
      | none => cases lv with
        | none => rfl
        | some v => cases hlo
      | some y => cases lv with
        | none => cases hlo
        | some v => simp only [Option.map_some, Option.some.injEq] at hlo ⊢; exact hS.eval hlo
    have e2 : hi'.map a.eval = hv := by
      cases hi' with
      | none => cases hv with
        | none => rfl
        | some v => cases hhi
      | some y => cases hv with
        | none => cases hhi
        | some v => simp only [Option.map_some, Option.some.injEq] at hhi ⊢; exact hS.eval hhi
    unfold Oper.wp execOp
    simp only [ho, hS.eval hx, e1, e2, Option.map_none, Sem.run_bind, hr w hJ, Result.andThen_ok, Sem.run_pure, Oper.upon_value]
    exact ⟨trivial, hJ⟩
theorem ext3_0 (a b c : Value) (W : World) : (Instr.extract (.tuple #[a, b, c]) 0).run Tryd.prog W = .ok a W := rfl
theorem ext3_1 (a b c : Value) (W : World) : (Instr.extract (.tuple #[a, b, c]) 1).run Tryd.prog W = .ok b W := rfl
theorem ext3_2 (a b c : Value) (W : World) : (Instr.extract (.tuple #[a, b, c]) 2).run Tryd.prog W = .ok c W := rfl
theorem stepG_new {G : Type} {md : Region.Mode} {ops : Array Oper} {Q : Exit → Act → World → Prop} {X0 : Array Value} {val : G → Nat → Value} {J : G → (Nat → Bool) → World → Prop} {i : Nat} {o : Oper} (hi : ops[i]? = some o) (hg : o.guard = none) (ho : o.op = .alloc 24)
    (h : ∀ g d W, J g d W → d i = false → (∀ j oj, ops[j]? = some oj → d j = true → ∀ k, bindsOn md oj k = true → d k = true) → ∃ g', (∀ j, d j = true → val g' j = val g j) ∧ val g' i = .pointer (some ⟨W.heap.size, 0, none⟩) ∧ J g' (fun j => if j = i then true else d j) (W.alloc (.cells (cells4 (fun _ => 0)) 24))) : StepG Tryd.prog md ops Q X0 val J i o := by
  intro g d a W hJ hun _ hcl _
  obtain ⟨g', h1, h2, h3⟩ := h g d W hJ hun hcl
  refine step_alloc hi hg ho ⟨g', h1, ?_, h3⟩
  rw [h2]
/-- While a set is laid in a new box; X: what else lies. -/
structure JX (X : World → Prop) (T lo : Nat) (g : Nat) (x6 x7 : Bool) (W : World) : Prop where
  p : X W
  lt : lo ≤ W.heap.size
  t : x6 = true → lo ≤ g ∧ Holds4 W g (if x7 = true then wd T else fun _ => 0)
theorem JX.new {X : World → Prop} (hX : ∀ W W', X W → Below W.heap.size W W' → X W') {T lo g : Nat} {x6 x7 : Bool} {W : World} (h : JX X T lo g x6 x7 W) (h7 : x7 = false) : JX X T lo W.heap.size true x7 (W.alloc (.cells (cells4 (fun _ => 0)) 24)) := by
  subst h7
  exact ⟨hX _ _ h.p (alloc_below W _), by have := h.lt; simp; omega, fun _ => ⟨h.lt, get_new rfl⟩⟩
theorem JX.store {X : World → Prop} {T lo g : Nat} {x7 : Bool} {W : World} (hX : ∀ W, X W → lo ≤ g → X (set4 W g T)) (h : JX X T lo g true x7 W) : JX X T lo g true true (set4 W g T) :=
  ⟨hX _ h.p (h.t rfl).1, by have := h.lt; simp [set4, World.setCell]; omega, fun _ => ⟨(h.t rfl).1, fin4 (h.t rfl).2 T⟩⟩
theorem JX.carry {X : World → Prop} (hX : ∀ W W', X W → Below W.heap.size W W' → X W') {T lo g : Nat} {x6 x7 : Bool} {W W' : World} (h : JX X T lo g x6 x7 W) (hb : Below W.heap.size W W') : JX X T lo g x6 x7 W' :=
  ⟨hX _ _ h.p hb, Nat.le_trans h.lt hb.size, fun e => ⟨(h.t e).1, (h.t e).2.carry hb⟩⟩
theorem below_set4 (W : World) (g T : Nat) : Below g W (set4 W g T) := below4 (Below.refl _ _) (Nat.le_refl _) T
end
section
open Go.RowKit Go.Shelf Go.Lib

/-- What turns is a row of slices. -/
def SliceRow (W : World) (row : Option Nat) : Prop := ∀ b, row = some b → ∃ cur t z ad n c, W.heap[b]? = some (.cells cur t z) ∧ cur[0]? = some (.slice ad n c)
theorem ros_grown {M : Nat} {W W' : World} {v : Value} {l : List Int} {row : Option Nat} (h : Ros M W v l) (hM : M ≤ W.heap.size) (hg : W.grownBy W' row) (hr : SliceRow W row) : Ros M W' v l := by
  obtain ⟨h0, sl, mp, rfl, ⟨ad, cap, rfl, hf⟩, hm⟩ := h
  refine ⟨h0, _, mp, rfl, ⟨ad, cap, rfl, fun hl => ?_⟩, ?_⟩
  · obtain ⟨g, rfl, g1, g2, g3⟩ := hf hl
    have hne : some g ≠ row := by
      intro e
      obtain ⟨cur, t, z, ad', n', c', h1, h2⟩ := hr g e.symm
      have h3 := g3 0 (l[0]'(List.length_pos_iff.2 hl)) (List.getElem?_eq_getElem _)
      rw [cell_at h1 0, h2] at h3
      cases h3
    exact ⟨g, rfl, g1, g2, fun j x hj => hg.cell (g3 j x hj) hne⟩
  · rcases hm with hm | ⟨b, n, D, rfl, h2, ⟨es, clock, h3, h4⟩, h5⟩
    · exact .inl hm
    · refine .inr ⟨b, n, D, rfl, h2, ⟨es, clock, (hg.block b (by omega) (fun e => ?_)).trans h3, h4⟩, h5⟩
      obtain ⟨cur, t, z, ad', n', c', h6, _⟩ := hr b e.symm
      rw [h3] at h6
      cases h6
theorem rosR_grown {M : Nat} {W W' : World} {v : Value} {l : List Int} {row : Option Nat} (h : RosR M W v l) (hg : W.grownBy W' row) (hr : SliceRow W row) : RosR M W' v l := by
  obtain ⟨h0, sl, rfl, ⟨ad, cap, rfl, hf⟩⟩ := h
  refine ⟨h0, _, rfl, ⟨ad, cap, rfl, fun hl => ?_⟩⟩
  obtain ⟨g, rfl, g1, g2, g3⟩ := hf hl
  have hne : some g ≠ row := by
    intro e
    obtain ⟨cur, t, z, ad', n', c', h1, h2⟩ := hr g e.symm
    have h3 := g3 0 (l[0]'(List.length_pos_iff.2 hl)) (List.getElem?_eq_getElem _)
    rw [cell_at h1 0, h2] at h3
    cases h3
  exact ⟨g, rfl, g1, g2, fun j x hj => hg.cell (g3 j x hj) hne⟩
theorem Ros.mono {M M' : Nat} {W : World} {v : Value} {l : List Int} (h : Ros M W v l) (hM : M ≤ M') : Ros M' W v l := by
  obtain ⟨h0, sl, mp, rfl, ⟨ad, cap, rfl, hf⟩, hm⟩ := h
  refine ⟨h0, _, mp, rfl, ⟨ad, cap, rfl, fun hl => ?_⟩, ?_⟩
  · obtain ⟨g, rfl, g1, g2⟩ := hf hl
    exact ⟨g, rfl, by omega, g2⟩
  · rcases hm with hm | ⟨b, n, D, rfl, h2, h3⟩
    · exact .inl hm
    · exact .inr ⟨b, n, D, rfl, by omega, h3⟩
theorem RosR.mono {M M' : Nat} {W : World} {v : Value} {l : List Int} (h : RosR M W v l) (hM : M ≤ M') : RosR M' W v l := by
  obtain ⟨h0, sl, rfl, ⟨ad, cap, rfl, hf⟩⟩ := h
  refine ⟨h0, _, rfl, ⟨ad, cap, rfl, fun hl => ?_⟩⟩
  obtain ⟨g, rfl, g1, g2⟩ := hf hl
  exact ⟨g, rfl, by omega, g2⟩
/-- The cells of a list of rosters. -/
def flatP : List (Value × Value) → List Value
  | [] => []
  | p :: l => p.1 :: p.2 :: flatP l
theorem flatP_append : ∀ a b : List (Value × Value), flatP (a ++ b) = flatP a ++ flatP b
  | [], b => rfl
  | p :: a, b => by simp [flatP, flatP_append a b]
theorem flatP_at : ∀ (ps : List (Value × Value)) (j : Nat) (p : Value × Value), ps[j]? = some p → (flatP ps)[2 * j]? = some p.1 ∧ (flatP ps)[2 * j + 1]? = some p.2
  | [], j, p, h => by simp at h
  | q :: ps, 0, p, h => by simp at h; subst h; exact ⟨rfl, rfl⟩
  | q :: ps, j + 1, p, h => by
    have := flatP_at ps j p (by simpa using h)
    rw [show 2 * (j + 1) = 2 * j + 1 + 1 by omega]
    simpa [flatP] using this
/-- The rosters lie there, and so do the document's. -/
structure All2 (ls : List (List Int)) (ps : List (Value × Value)) (qs : List Value) (W : World) : Prop where
  a : ∀ (j : Nat) (p : Value × Value), ps[j]? = some p → ∃ l, ls[j]? = some l ∧ Ros W.heap.size W (.agg #[p.1, p.2]) l
  b : ∀ (j : Nat) (q : Value), qs[j]? = some q → ∃ l, ls[j]? = some l ∧ RosR W.heap.size W (.agg #[q]) l
theorem All2.below {ls : List (List Int)} {ps : List (Value × Value)} {qs : List Value} {W W' : World} (h : All2 ls ps qs W) (hb : Below W.heap.size W W') : All2 ls ps qs W' :=
  ⟨fun j p hp => by obtain ⟨l, h1, h2⟩ := h.a j p hp; exact ⟨l, h1, (h2.below hb).mono hb.size⟩, fun j q hq => by obtain ⟨l, h1, h2⟩ := h.b j q hq; exact ⟨l, h1, (h2.below hb).mono hb.size⟩⟩
theorem All2.grown {ls : List (List Int)} {ps : List (Value × Value)} {qs : List Value} {W W' : World} {row : Option Nat} (h : All2 ls ps qs W) (hg : W.grownBy W' row) (hr : SliceRow W row) : All2 ls ps qs W' :=
  ⟨fun j p hp => by obtain ⟨l, h1, h2⟩ := h.a j p hp; exact ⟨l, h1, (ros_grown h2 (Nat.le_refl _) hg hr).mono hg.size⟩, fun j q hq => by obtain ⟨l, h1, h2⟩ := h.b j q hq; exact ⟨l, h1, (rosR_grown h2 hg hr).mono hg.size⟩⟩
theorem All2.alloc {ls : List (List Int)} {ps : List (Value × Value)} {qs : List Value} {W : World} (h : All2 ls ps qs W) (o : Obj) : All2 ls ps qs (W.alloc o) := h.below ((Below.refl _ _).alloc (Nat.le_refl _) o)
theorem slice_row {w : World} {base : Nat} {e : TypeId} {size : Nat} {v : Value} {n : Nat} {xs : List Value} (h : w.ownsRow base e size v n xs) (hx : ∀ u, xs[0]? = some u → ∃ ad m c, u = .slice ad m c) (h0 : xs = [] → v = .slice none 0 0) : SliceRow w v.ownBlock := by
  intro b hb
  obtain ⟨h1, h2⟩ := h
  rcases h2 with ⟨rfl, rfl⟩ | ⟨g, cap, cur, rfl, h4, h5, h6, h7, h8, h9⟩
  · cases hb
  · cases hb
    cases hxs : xs with
    | nil => cases h0 hxs
    | cons u t =>
      obtain ⟨ad, m, c, rfl⟩ := hx u (by rw [hxs]; rfl)
      refine ⟨cur, e, _, ad, m, c, h5, ?_⟩
      have : (cur.toList.take (n * size))[0]? = some (.slice ad m c) := by rw [h9, hxs]; rfl
      rw [List.getElem?_take] at this
      split at this
      · simpa using this
      · cases this
end
section
open Go.RowKit Go.Shelf Go.Lib

section
variable {G : Type} {P : Program} {md : Region.Mode} {ops : Array Oper} {Q : Exit → Act → World → Prop} {X0 : Array Value} {val : G → Nat → Value} {J : G → (Nat → Bool) → World → Prop} {i : Nat} {o : Oper}
theorem stepG_build (hi : ops[i]? = some o) (hg : o.guard = none) (t : TypeId) (x : Operand) (v : Value) (ho : o.op = .buildSlice t 1 #[(0, x)]) (hx : ∀ g, rdo md ops X0 (val g) i o x = some v)
    (h : ∀ g d w, J g d w → d i = false → (∀ j oj, ops[j]? = some oj → d j = true → ∀ k, bindsOn md oj k = true → d k = true) → ∃ g' w', (Instr.buildSlice t 1 #[(0, v)]).run P w = .ok (val g' i) w' ∧ (∀ j, d j = true → val g' j = val g j) ∧ J g' (fun j => if j = i then true else d j) w') : StepG P md ops Q X0 val J i o := by
  intro g d a w hJ hun hdep hcl hS
  have hS' : Seen md ops X0 (val g) i o a := hS
  obtain ⟨g', w', h1, h2, h3⟩ := h g d w hJ hun hcl
  unfold wpOp
  rw [hi]
  simp only [Region.wanted, hg, if_true]
  refine .inl ?_
  unfold Oper.wp execOp
  simp only [ho, List.map_toArray, List.map_cons, List.map_nil, hS'.eval (hx g), Sem.run_bind, h1, Result.andThen_ok, Sem.run_pure, Oper.upon_value]
  exact ⟨g', h2, rfl, h3⟩
theorem stepG_append (hi : ops[i]? = some o) (hg : o.guard = none) (t : TypeId) (x y : Operand) (vx vy : G → Value) (ho : o.op = .call { callee := .builtin .append, args := #[x, y], argTypes := #[t, t] }) (hx : ∀ g, rdo md ops X0 (val g) i o x = some (vx g)) (hy : ∀ g, rdo md ops X0 (val g) i o y = some (vy g))
    (h : ∀ g d w, J g d w → d i = false → (∀ j, bindsOn md o j = true → d j = true) → (∀ j oj, ops[j]? = some oj → d j = true → ∀ k, bindsOn md oj k = true → d k = true) → ∃ g' w', (Builtin.append_ #[t, t] o.type #[vx g, vy g]).run P w = .ok (val g' i) w' ∧ (∀ j, d j = true → val g' j = val g j) ∧ J g' (fun j => if j = i then true else d j) w') : StepG P md ops Q X0 val J i o := by
  intro g d a w hJ hun hdep hcl hS
  have hS' : Seen md ops X0 (val g) i o a := hS
  obtain ⟨g', w', h1, h2, h3⟩ := h g d w hJ hun hdep hcl
  unfold wpOp
  rw [hi]
  simp only [Region.wanted, hg, if_true]
  refine .inl ?_
  unfold Oper.wp execOp
  simp only [ho, resolve, invoke, builtin, List.map_toArray, List.map_cons, List.map_nil, hS'.eval (hx g), hS'.eval (hy g), Sem.run_bind, h1, Result.andThen_ok, Sem.run_pure, Oper.upon_value]
  exact ⟨g', h2, rfl, h3⟩
end
theorem bs_ros (W : World) (u v : Value) : (Instr.buildSlice 43 1 #[(0, .agg #[u, v])]).run Tryd.prog W = .ok (.slice (some ⟨W.heap.size, 0, none⟩) 1 1) (W.alloc (.cells #[u, v] 28)) := by
  go_simp
theorem bs_rosR (W : World) (u : Value) : (Instr.buildSlice 44 1 #[(0, .agg #[u])]).run Tryd.prog W = .ok (.slice (some ⟨W.heap.size, 0, none⟩) 1 1) (W.alloc (.cells #[u] 34)) := by
  go_simp
theorem info28 : (Tryd.prog.info? 28).map (fun i => (i.zero, i.size, i.bytes)) = some (some (.agg #[.slice none 0 0, .map none]), 2, 32) := by kernel_rfl
theorem info34 : (Tryd.prog.info? 34).map (fun i => (i.zero, i.size, i.bytes)) = some (some (.agg #[.slice none 0 0]), 1, 24) := by kernel_rfl
/-- What lies there while both lists grow. -/
structure JA (w : World) (C k : Nat) (ls : List (List Int)) (ps : List (Value × Value)) (qs : List Value) (p : Value × Value) (q : Value) (l : List Int) (v5 v6 : Value) (Bv Cv : Nat) (g : Nat × Nat × Value × Value) (d2 d3 d6 d7 : Bool) (W : World) : Prop where
  o : All2 ls ps qs W
  rp : Ros W.heap.size W (.agg #[p.1, p.2]) l
  rq : RosR W.heap.size W (.agg #[q]) l
  v1 : W.heap[Bv]? = some (.cells #[p.1, p.2] 28 (0, 0))
  v2 : W.heap[Cv]? = some (.cells #[q] 34 (0, 0))
  r5 : W.ownsRow C 28 2 (cond d3 g.2.2.1 v5) (cond d3 (k + 1) k) (cond d3 (flatP ps ++ [p.1, p.2]) (flatP ps))
  r6 : W.ownsRow C 34 1 (cond d7 g.2.2.2 v6) (cond d7 (k + 1) k) (cond d7 (qs ++ [q]) qs)
  n5 : ∀ b, (cond d3 g.2.2.1 v5).ownBlock = some b → b ≠ Bv ∧ b ≠ Cv ∧ (d2 = true → b ≠ g.1) ∧ (d6 = true → b ≠ g.2.1) ∧ (cond d7 g.2.2.2 v6).ownBlock ≠ some b
  n6 : ∀ b, (cond d7 g.2.2.2 v6).ownBlock = some b → b ≠ Bv ∧ b ≠ Cv ∧ (d2 = true → b ≠ g.1) ∧ (d6 = true → b ≠ g.2.1)
  b1 : d2 = true → W.heap[g.1]? = some (.cells #[p.1, p.2] 28 (0, 0))
  b2 : d6 = true → W.heap[g.2.1]? = some (.cells #[q] 34 (0, 0))
  bl : Below C w W
  cl : C ≤ W.heap.size
theorem row_lt {w : World} {base : Nat} {e : TypeId} {size : Nat} {v : Value} {n : Nat} {xs : List Value} (h : w.ownsRow base e size v n xs) : ∀ b, v.ownBlock = some b → base ≤ b ∧ b < w.heap.size := by
  intro b hb
  rcases h.2 with ⟨rfl, _⟩ | ⟨g', cap, cur, rfl, h4, h5, _⟩
  · cases hb
  · cases hb
    exact ⟨h4, lt_at h5⟩
theorem row_apart {w w' : World} {base : Nat} {e : TypeId} {size : Nat} {v : Value} {n : Nat} {xs : List Value} {row : Option Nat} (h : w.ownsRow base e size v n xs) (hg : w.grownBy w' row) (hne : ∀ b, row = some b → v.ownBlock ≠ some b) : w'.ownsRow base e size v n xs := by
  refine h.kept hg ?_
  cases hv : v.ownBlock with
  | none => exact .inl rfl
  | some b =>
    refine .inr (fun e => ?_)
    exact hne b e.symm hv
theorem row_kept' {w w' : World} {base : Nat} {e : TypeId} {size : Nat} {v : Value} {n : Nat} {xs : List Value} (h : w.ownsRow base e size v n xs) (hb : Below w.heap.size w w') : w'.ownsRow base e size v n xs := row_kept h (grown_below hb) (fun k e => by cases e)
section
variable {w : World} {C k : Nat} {ls : List (List Int)} {ps : List (Value × Value)} {qs : List Value} {p : Value × Value} {q : Value} {l : List Int} {v5 v6 : Value} {Bv Cv : Nat} {g : Nat × Nat × Value × Value} {d2 d3 d6 d7 : Bool} {W : World}
theorem JA.carry (h : JA w C k ls ps qs p q l v5 v6 Bv Cv g d2 d3 d6 d7 W) {W' : World} (hb : Below W.heap.size W W') : JA w C k ls ps qs p q l v5 v6 Bv Cv g d2 d3 d6 d7 W' :=
  ⟨h.o.below hb, (h.rp.below hb).mono hb.size, (h.rq.below hb).mono hb.size, (hb.block _ (lt_at h.v1)).trans h.v1, (hb.block _ (lt_at h.v2)).trans h.v2, row_kept' h.r5 hb, row_kept' h.r6 hb, h.n5, h.n6, fun e => (hb.block _ (lt_at (h.b1 e))).trans (h.b1 e), fun e => (hb.block _ (lt_at (h.b2 e))).trans (h.b2 e), h.bl.trans (hb.mono h.cl), Nat.le_trans h.cl hb.size⟩
theorem JA.build1 (h : JA w C k ls ps qs p q l v5 v6 Bv Cv g d2 d3 d6 d7 W) : JA w C k ls ps qs p q l v5 v6 Bv Cv (W.heap.size, g.2) true d3 d6 d7 (W.alloc (.cells #[p.1, p.2] 28)) := by
  have h' := h.carry ((Below.refl _ W).alloc (Nat.le_refl _) (.cells #[p.1, p.2] 28))
  refine ⟨h'.o, h'.rp, h'.rq, h'.v1, h'.v2, h'.r5, h'.r6, fun b hb => ?_, fun b hb => ?_, fun _ => new_at rfl, h'.b2, h'.bl, h'.cl⟩
  · obtain ⟨a1, a2, _, a4, a5⟩ := h.n5 b hb
    have := (row_lt h.r5 b hb).2
    exact ⟨a1, a2, fun _ => by show b ≠ W.heap.size; omega, a4, a5⟩
  · obtain ⟨a1, a2, _, a4⟩ := h.n6 b hb
    have := (row_lt h.r6 b hb).2
    exact ⟨a1, a2, fun _ => by show b ≠ W.heap.size; omega, a4⟩
theorem JA.build2 (h : JA w C k ls ps qs p q l v5 v6 Bv Cv g d2 d3 d6 d7 W) : JA w C k ls ps qs p q l v5 v6 Bv Cv (g.1, W.heap.size, g.2.2) d2 d3 true d7 (W.alloc (.cells #[q] 34)) := by
  have h' := h.carry ((Below.refl _ W).alloc (Nat.le_refl _) (.cells #[q] 34))
  refine ⟨h'.o, h'.rp, h'.rq, h'.v1, h'.v2, h'.r5, h'.r6, fun b hb => ?_, fun b hb => ?_, h'.b1, fun _ => new_at rfl, h'.bl, h'.cl⟩
  · obtain ⟨a1, a2, a3, _, a5⟩ := h.n5 b hb
    have := (row_lt h.r5 b hb).2
    exact ⟨a1, a2, a3, fun _ => by show b ≠ W.heap.size; omega, a5⟩
  · obtain ⟨a1, a2, a3, _⟩ := h.n6 b hb
    have := (row_lt h.r6 b hb).2
    exact ⟨a1, a2, a3, fun _ => by show b ≠ W.heap.size; omega⟩
theorem head_ps (h : All2 ls ps qs W) : ∀ u, (flatP ps)[0]? = some u → ∃ ad m c, u = .slice ad m c := by
  intro u hu
  cases ps with
  | nil => simp [flatP] at hu
  | cons p0 t =>
    simp [flatP] at hu
    subst hu
    obtain ⟨l0, _, h2⟩ := h.a 0 p0 rfl
    obtain ⟨ad, cap, mb, e⟩ := h2.form
    simp at e
    exact ⟨ad, _, cap, e.1⟩
theorem head_qs (h : All2 ls ps qs W) : ∀ u, qs[0]? = some u → ∃ ad m c, u = .slice ad m c := by
  intro u hu
  obtain ⟨l0, _, h2⟩ := h.b 0 u hu
  obtain ⟨ad, cap, e⟩ := h2.form
  simp at e
  exact ⟨ad, _, cap, e⟩
theorem JA.app1 (h : JA w C k ls ps qs p q l v5 v6 Bv Cv g true false d6 d7 W) (h0 : ps = [] → v5 = .slice none 0 0) (hk : k ≤ 20) (ty : TypeId) : ∃ v' W', (Builtin.append_ #[43, 43] ty #[v5, .slice (some ⟨g.1, 0, none⟩) 1 1]).run Tryd.prog W = .ok v' W' ∧
    JA w C k ls ps qs p q l v5 v6 Bv Cv (g.1, g.2.1, v', g.2.2.2) true true d6 d7 W' := by
  obtain ⟨ic, hic, hz0, hz1, hz2⟩ := info_parts info28
  obtain ⟨ap, cp, mp, ep⟩ := h.rp.form
  simp at ep
  have hnews : ∀ (j : Nat) (u : Value), [p.1, p.2][j]? = some u → W.cell? ((⟨g.1, 0, none⟩ : Addr).add j) = some u := by
    intro j u hj
    have ha : (⟨g.1, 0, none⟩ : Addr).add j = ⟨g.1, j, none⟩ := by unfold Addr.add; split <;> simp_all
    rw [ha, cell_at (h.b1 rfl) j, ← hj]
    simp
  have h1c : ∀ u ∈ [p.1, p.2], u.oneCell' = true := by rw [ep.1, ep.2]; simp [Value.oneCell']
  obtain ⟨v', W', hr, h2, h3, _, h5⟩ := run_append_own_at (P := Tryd.prog) W C 43 ty 28 ic _ 2 32 Tryd.underlying43 hic hz0 hz1 hz2 rfl (by decide) v5 k (flatP ps) h.r5 ⟨g.1, 0, none⟩ 1 1 [p.1, p.2] rfl hnews h1c (by unfold maxLen; omega) (by omega) h.cl
  have hs : SliceRow W v5.ownBlock := slice_row h.r5 (head_ps h.o) (fun e => h0 (by cases ps with | nil => rfl | cons a b => simp [flatP] at e))
  refine ⟨v', W', hr, h.o.grown h3 hs, (ros_grown h.rp (Nat.le_refl _) h3 hs).mono h3.size, (rosR_grown h.rq h3 hs).mono h3.size, (h3.block _ (lt_at h.v1) (fun e => (h.n5 _ e.symm).1 rfl)).trans h.v1, (h3.block _ (lt_at h.v2) (fun e => (h.n5 _ e.symm).2.1 rfl)).trans h.v2, h2, row_apart h.r6 h3 (fun b hb => (h.n5 b hb).2.2.2.2), fun b hb => ?_, h.n6, fun e => (h3.block _ (lt_at (h.b1 e)) (fun e2 => (h.n5 _ e2.symm).2.2.1 e rfl)).trans (h.b1 e), fun e => (h3.block _ (lt_at (h.b2 e)) (fun e2 => (h.n5 _ e2.symm).2.2.2.1 e rfl)).trans (h.b2 e), h.bl.grown h3 h.cl (fun b hb => (row_lt h.r5 b hb).1), Nat.le_trans h.cl h3.size⟩
  rcases h5 with h5 | h5
  · exact h.n5 b (h5.symm.trans hb)
  · have e : b = W.heap.size := by have := h5.symm.trans hb; simpa using this.symm
    have q1 := lt_at h.v1
    have q2 := lt_at h.v2
    refine ⟨by omega, by omega, fun e2 => by have := lt_at (h.b1 e2); show b ≠ g.1; omega, fun e2 => by have := lt_at (h.b2 e2); show b ≠ g.2.1; omega, fun e2 => ?_⟩
    have := (row_lt h.r6 b e2).2
    omega
theorem JA.app2 (h : JA w C k ls ps qs p q l v5 v6 Bv Cv g d2 d3 true false W) (h0 : qs = [] → v6 = .slice none 0 0) (hk : k ≤ 20) (ty : TypeId) : ∃ v' W', (Builtin.append_ #[44, 44] ty #[v6, .slice (some ⟨g.2.1, 0, none⟩) 1 1]).run Tryd.prog W = .ok v' W' ∧
    JA w C k ls ps qs p q l v5 v6 Bv Cv (g.1, g.2.1, g.2.2.1, v') d2 d3 true true W' := by
  obtain ⟨ic, hic, hz0, hz1, hz2⟩ := info_parts info34
  obtain ⟨ap, cp, ep⟩ := h.rq.form
  simp at ep
  have hnews : ∀ (j : Nat) (u : Value), [q][j]? = some u → W.cell? ((⟨g.2.1, 0, none⟩ : Addr).add j) = some u := by
    intro j u hj
    have ha : (⟨g.2.1, 0, none⟩ : Addr).add j = ⟨g.2.1, j, none⟩ := by unfold Addr.add; split <;> simp_all
    rw [ha, cell_at (h.b2 rfl) j, ← hj]
    simp
  have h1c : ∀ u ∈ [q], u.oneCell' = true := by rw [ep]; simp [Value.oneCell']
  obtain ⟨v', W', hr, h2, h3, _, h5⟩ := run_append_own_at (P := Tryd.prog) W C 44 ty 34 ic _ 1 24 Tryd.underlying44 hic hz0 hz1 hz2 rfl (by decide) v6 k qs h.r6 ⟨g.2.1, 0, none⟩ 1 1 [q] rfl hnews h1c (by unfold maxLen; omega) (by omega) h.cl
  have hs : SliceRow W v6.ownBlock := slice_row h.r6 (head_qs h.o) h0
  refine ⟨v', W', hr, h.o.grown h3 hs, (ros_grown h.rp (Nat.le_refl _) h3 hs).mono h3.size, (rosR_grown h.rq h3 hs).mono h3.size, (h3.block _ (lt_at h.v1) (fun e => (h.n6 _ e.symm).1 rfl)).trans h.v1, (h3.block _ (lt_at h.v2) (fun e => (h.n6 _ e.symm).2.1 rfl)).trans h.v2, row_apart h.r5 h3 (fun b hb e => (h.n5 b e).2.2.2.2 hb), h2, fun b hb => ?_, fun b hb => ?_, fun e => (h3.block _ (lt_at (h.b1 e)) (fun e2 => (h.n6 _ e2.symm).2.2.1 e rfl)).trans (h.b1 e), fun e => (h3.block _ (lt_at (h.b2 e)) (fun e2 => (h.n6 _ e2.symm).2.2.2 e rfl)).trans (h.b2 e), h.bl.grown h3 h.cl (fun b hb => (row_lt h.r6 b hb).1), Nat.le_trans h.cl h3.size⟩
  · obtain ⟨a1, a2, a3, a4, a5⟩ := h.n5 b hb
    refine ⟨a1, a2, a3, a4, fun e => ?_⟩
    rcases h5 with h5 | h5
    · exact a5 (h5.symm.trans e)
    · have e2 : b = W.heap.size := by have := h5.symm.trans e; simpa using this.symm
      have := (row_lt h.r5 b hb).2
      omega
  · rcases h5 with h5 | h5
    · exact h.n6 b (h5.symm.trans hb)
    · have e : b = W.heap.size := by have := h5.symm.trans hb; simpa using this.symm
      have q1 := lt_at h.v1
      have q2 := lt_at h.v2
      exact ⟨by omega, by omega, fun e2 => by have := lt_at (h.b1 e2); show b ≠ g.1; omega, fun e2 => by have := lt_at (h.b2 e2); show b ≠ g.2.1; omega⟩
end
end
section
open Go.ChangeShapes Go.WideShapes Go.ChangeAt Go.RowKit

/-- These texts lie there. -/
structure Strs (W : World) (a : Addr) (l : List ByteArray) : Prop where
  spot : a.spot = none
  cell : ∀ (k : Nat) (x : ByteArray), l[k]? = some x → W.cell? ⟨a.block, a.off + k, none⟩ = some (.string x)
  lt : a.block < W.heap.size
theorem cell_ltz {W : World} {a : Addr} {v : Value} (h : W.cell? a = some v) : a.block < W.heap.size := by
  unfold World.cell? at h
  cases hb : W.heap[a.block]? with
  | none => simp [hb] at h
  | some o => exact (Array.getElem?_eq_some_iff.1 hb).1
theorem open_strs {H : Type} {enc : TypeId × Value → H} {W : World} {base : Nat} {v : Value} {d : DataW H} {p : List MemPlace} (hval : Value.okWide Tryd.prog W .any base 42 v)
    (h : DataW.Trod enc Tryd.prog W 0 (fun _ => true) true 42 v d p) : ∃ (ad : Option Addr) (cap : Nat) (l : List ByteArray), v = .slice ad l.length cap ∧ (l ≠ [] → ∃ a, ad = some a ∧ Strs W a l) ∧ l.length ≤ maxLen ∧ ∀ s ∈ l, s.size ≤ maxLen := by
  obtain ⟨a0, len0, cap0, rfl⟩ := okWide_slice Tryd.underlying42 hval
  obtain ⟨fuel, hf⟩ := h
  rcases open_strings Tryd.underlying42 Tryd.underlying9 (by kernel_rfl) hf with ⟨hcs, _⟩ | ⟨x, l, c, zs, hcs, _, hl, hm, hz, _, hcell, hwz⟩
  · simp [Value.cells] at hcs
    obtain ⟨rfl, rfl, rfl⟩ := hcs
    exact ⟨none, 0, [], rfl, fun h => absurd rfl h, by unfold maxLen; simp, fun s h => by cases h⟩
  · simp [Value.cells] at hcs
    obtain ⟨rfl, rfl, rfl⟩ := hcs
    have hz' : zs.length = cap0 := by simpa using hz
    have hlen : (zs.take len0).length = len0 := by simp; omega
    refine ⟨some x, cap0, zs.take len0, by rw [hlen], fun hne => ⟨x, rfl, ?_⟩, by omega, fun s hs => hwz s (List.mem_of_mem_take hs)⟩
    have hpos : 0 < len0 := by
      cases len0 with
      | zero => simp at hne
      | succ n => omega
    obtain ⟨b, off, spot⟩ := x
    have hspot : spot = none := by simpa [Addr.add] using World.cell?_spot (hcell 0 (by omega))
    subst hspot
    have hc : ∀ j, j < zs.length → W.cell? ⟨b, off + j, none⟩ = some (.string (zs.getD j ByteArray.empty)) := fun j hj => by rw [← Go.WideShapes.add_plain]; exact hcell j hj
    refine ⟨rfl, fun k y hy => ?_, cell_ltz (hc 0 (by omega))⟩
    have hk : k < len0 := by have := (List.getElem?_eq_some_iff.1 hy).1; omega
    rw [List.getElem?_take, if_pos hk] at hy
    have hg : zs.getD k ByteArray.empty = y := by simp [List.getD_eq_getElem?_getD, hy]
    rw [← hg]
    exact hc k (by omega)
end
end Go.Proofs.YtginkcjhfdoodabDoor
