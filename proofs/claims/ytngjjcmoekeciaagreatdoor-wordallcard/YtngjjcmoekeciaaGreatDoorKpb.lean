/- A list is kept, of whatever kind: what does not hang on the kind. -/
import Derived.Test.YtngjjcmoekeciaaGreatDoorKpa
namespace Go.Proofs.YtngjjcmoekeciaaGreatDoor.Kel
open Go.RowKit Go.Shelf Go.Lib

/-- Nothing turns but the book of lists and two of its rows. -/
structure Fk (bb : Nat) (u v : Value) (w V : World) : Prop where
  os : V.os = w.os
  tape : V.tape = w.tape
  output : V.output = w.output
  size : w.heap.size ≤ V.heap.size
  block : ∀ q, q < w.heap.size → q ≠ bb → u.ownBlock ≠ some q → v.ownBlock ≠ some q → V.heap[q]? = w.heap[q]?
theorem Fk.refl (bb : Nat) (u v : Value) (w : World) : Fk bb u v w w := ⟨rfl, rfl, rfl, Nat.le_refl _, fun _ _ _ _ _ => rfl⟩
theorem Fk.below {bb : Nat} {u v : Value} {w W V : World} (h : Fk bb u v w W) (hb : Below W.heap.size W V) : Fk bb u v w V := ⟨hb.os.trans h.os, hb.tape.trans h.tape, hb.output.trans h.output, Nat.le_trans h.size hb.size, fun q hq h1 h2 h3 => (hb.block q (Nat.lt_of_lt_of_le hq h.size)).trans (h.block q hq h1 h2 h3)⟩
theorem Fk.grown {bb : Nat} {u v : Value} {w W V : World} {r : Option Nat} (h : Fk bb u v w W) (hg : W.grownBy V r) (hr : ∀ q, r = some q → q = bb ∨ u.ownBlock = some q ∨ v.ownBlock = some q ∨ w.heap.size ≤ q) : Fk bb u v w V :=
  ⟨hg.os.trans h.os, hg.tape.trans h.tape, hg.output.trans h.output, Nat.le_trans h.size hg.size, fun q hq h1 h2 h3 => (hg.block q (Nat.lt_of_lt_of_le hq h.size) (fun e => by
    rcases hr q e.symm with k | k | k | k
    · exact h1 k
    · exact h2 k
    · exact h3 k
    · omega)).trans (h.block q hq h1 h2 h3)⟩
theorem Fk.set {bb j : Nat} {u v a : Value} {w W : World} (h : Fk bb u v w W) : Fk bb u v w (W.setCell ⟨bb, j, none⟩ a) :=
  ⟨h.os, h.tape, h.output, by simpa using h.size, fun q hq h1 h2 h3 => (Below.heap_setCell _ _ _ _ h1).trans (h.block q hq h1 h2 h3)⟩
/-- What is kept, and the copies. -/
structure Kk {α : Type} (c : α → List Value) (s : Nat) (T TT : TypeId) (base : Nat) (W : World) (u v : Value) (x y : List Value) (L : List (List α)) : Prop where
  kl : Kl c s T TT base W u x L
  cr : W.ownsRow base TT 1 v L.length y
  cs : ∀ (i : Nat) (l : List α), L[i]? = some l → ∃ z, y[i]? = some z ∧ W.ownsRow base T s z l.length (fc c l)
  uv : ∀ q, u.ownBlock = some q → v.ownBlock ≠ some q
section
variable {α : Type} {c : α → List Value} {s : Nat} {T TT TTT TB : TypeId} {by_ base bb : Nat} {W V : World} {u v : Value} {x y : List Value} {L : List (List α)} {C : Array Value}
theorem Kk.cl (h : Kk c s T TT base W u v x y L) : Cl c TT base W v y L := ⟨h.cr, fun i l hl => by
  obtain ⟨z, h1, h2⟩ := h.cs i l hl
  obtain ⟨ad, c', e, hr, _⟩ := own_rd h2
  exact ⟨ad, c', by rw [h1, e], hr⟩⟩
theorem Kk.leny (h : Kk c s T TT base W u v x y L) : y.length = L.length := by
  have := h.cr.1
  omega
theorem Kk.nil : Kk c s T TT base W (.slice none 0 0) (.slice none 0 0) [] [] ([] : List (List α)) :=
  ⟨⟨World.ownsRow_nil _ _ _ _, fun _ _ hl => (by cases hl), fun _ _ _ _ _ hz => (by cases hz), Nat.zero_le _⟩, World.ownsRow_nil _ _ _ _, fun _ _ hl => (by cases hl), fun _ hq => (by cases hq)⟩
theorem Kk.move (h : Kk c s T TT base W u v x y L) (e : ∀ (g : Nat) (cur : Array Value) (t : TypeId), base ≤ g → W.heap[g]? = some (.cells cur t (0, 0)) → (t = T ∨ (t = TT ∧ (u.ownBlock = some g ∨ v.ownBlock = some g))) → V.heap[g]? = W.heap[g]?) : Kk c s T TT base V u v x y L :=
  ⟨h.kl.move (fun g hg => by
      obtain ⟨h0, cur, h1⟩ := rowBlk h.kl.row g hg
      exact e g cur TT h0 h1 (.inr ⟨rfl, .inl hg⟩)) (fun i z g hz hg => by
      obtain ⟨cur, h1⟩ := h.kl.tyx hz hg
      exact e g cur T (h.kl.ltx hz hg).1 h1 (.inl rfl)),
    row_at h.cr (fun g hg => by
      obtain ⟨h0, cur, h1⟩ := rowBlk h.cr g hg
      exact e g cur TT h0 h1 (.inr ⟨rfl, .inr hg⟩)),
    fun i l hl => by
      obtain ⟨z, h1, h2⟩ := h.cs i l hl
      refine ⟨z, h1, row_at h2 (fun g hg => ?_)⟩
      obtain ⟨h0, cur, h3⟩ := rowBlk h2 g hg
      exact e g cur T h0 h3 (.inl rfl), h.uv⟩
theorem Kk.carry (h : Kk c s T TT base W u v x y L) (hb : Below W.heap.size W V) : Kk c s T TT base V u v x y L := h.move (fun g _ _ _ hg _ => hb.block g (lt_at hg))
/-- A list of another kind is kept. -/
theorem Kk.fk {bb : Nat} {TT' : TypeId} {s' base' n n' : Nat} {u' v' : Value} {xs ys : List Value} (h : Kk c s T TT base W u v x y L) (hb : Fk bb u' v' W V) (hB : Bb TB W bb C) (hu : W.ownsRow base' TT' s' u' n xs) (hv : W.ownsRow base' TT' s' v' n' ys) (h1 : TB ≠ T) (h2 : TB ≠ TT) (h3 : TT' ≠ T) (h4 : TT' ≠ TT) : Kk c s T TT base V u v x y L := h.move (fun g cur t _ hg ht => by
  have ht' : t = T ∨ t = TT := ht.imp_right (·.1)
  refine hb.block g (lt_at hg) (fun e => ?_) (fun e => ?_) (fun e => ?_)
  · subst e
    have := hB.symm.trans hg
    simp only [Option.some.injEq, Obj.cells.injEq] at this
    rcases ht' with q | q
    · exact h1 (this.2.1.trans q)
    · exact h2 (this.2.1.trans q)
  · obtain ⟨_, c2, h5⟩ := rowBlk hu g e
    have := h5.symm.trans hg
    simp only [Option.some.injEq, Obj.cells.injEq] at this
    rcases ht' with q | q
    · exact h3 (this.2.1.trans q)
    · exact h4 (this.2.1.trans q)
  · obtain ⟨_, c2, h5⟩ := rowBlk hv g e
    have := h5.symm.trans hg
    simp only [Option.some.injEq, Obj.cells.injEq] at this
    rcases ht' with q | q
    · exact h3 (this.2.1.trans q)
    · exact h4 (this.2.1.trans q))
theorem row_fk {t TT' : TypeId} {s1 b1 n1 s' base' n n' : Nat} {z u' v' : Value} {zs xs ys : List Value} (h : W.ownsRow b1 t s1 z n1 zs) (hb : Fk bb u' v' W V) (hB : Bb TB W bb C) (hu : W.ownsRow base' TT' s' u' n xs) (hv : W.ownsRow base' TT' s' v' n' ys) (h1 : TB ≠ t) (h3 : TT' ≠ t) : V.ownsRow b1 t s1 z n1 zs := row_at h (fun g hg => by
  obtain ⟨_, cur, hc⟩ := rowBlk h g hg
  refine hb.block g (lt_at hc) (fun e => ?_) (fun e => ?_) (fun e => ?_)
  · subst e
    exact row_type h hB h1 hg
  · obtain ⟨_, c2, h5⟩ := rowBlk hu g e
    exact row_type h h5 h3 hg
  · obtain ⟨_, c2, h5⟩ := rowBlk hv g e
    exact row_type h h5 h3 hg)
theorem Fk.low {base : Nat} {n n' s' : Nat} {TT' : TypeId} {u' v' : Value} {xs ys : List Value} (hb : Fk bb u' v' W V) (hu : W.ownsRow base TT' s' u' n xs) (hv : W.ownsRow base TT' s' v' n' ys) (hbb : base ≤ bb) (hz : base ≤ W.heap.size) : Below base W V := ⟨hb.os, hb.tape, hb.output, hb.size, fun k hk => hb.block k (by omega) (by omega) (fun e => by
  have := (row_lt hu k e).1
  omega) (fun e => by
  have := (row_lt hv k e).1
  omega)⟩
theorem get_snoc {β : Type} (a : List β) (b : β) (i : Nat) (d : β) (h : (a ++ [b])[i]? = some d) : (i < a.length ∧ a[i]? = some d) ∨ (i = a.length ∧ d = b) := by
  by_cases hi : i < a.length
  · rw [List.getElem?_append_left hi] at h
    exact .inl ⟨hi, h⟩
  · rw [List.getElem?_append_right (by omega)] at h
    have : i - a.length = 0 := by
      have := (List.getElem?_eq_some_iff.1 h).1
      simp at this
      omega
    rw [this] at h
    simp at h
    exact .inr ⟨by omega, h.symm⟩
/-- One more is kept. -/
theorem Kk.app {u' v' z zc : Value} {l : List α} (h : Kk c s T TT base W u v x y L) (hx : ∀ (g : Nat) (cur : Array Value), W.heap[g]? = some (.cells cur T (0, 0)) → V.heap[g]? = W.heap[g]?) (hz : V.ownsRow base T s z l.length (fc c l)) (hc : V.ownsRow base T s zc l.length (fc c l)) (hl : l.length ≤ 1000000) (hk : L.length < 400) (hn : ∀ (i g : Nat) (z' : Value), x[i]? = some z' → z.ownBlock = some g → z'.ownBlock ≠ some g)
    (hu : V.ownsRow base TT 1 u' (L.length + 1) (x ++ [z])) (hv : V.ownsRow base TT 1 v' (L.length + 1) (y ++ [zc])) (huv : ∀ q, u'.ownBlock = some q → v'.ownBlock ≠ some q) : Kk c s T TT base V u' v' (x ++ [z]) (y ++ [zc]) (L ++ [l]) := by
  have lx := h.kl.lenx
  have ly := h.leny
  refine ⟨⟨by rw [List.length_append]; exact hu, fun i l' hl' => ?_, fun i j g z1 z2 hi hj e1 e2 => ?_, by rw [List.length_append]; simp; omega⟩, by rw [List.length_append]; exact hv, fun i l' hl' => ?_, huv⟩
  · rcases get_snoc _ _ _ _ hl' with ⟨q1, q2⟩ | ⟨q1, q2⟩
    · obtain ⟨z', k1, k2, k3⟩ := h.kl.ks i l' q2
      exact ⟨z', by rw [List.getElem?_append_left (by omega)]; exact k1, row_at k2 (fun g hg => by
        obtain ⟨_, cur, q⟩ := rowBlk k2 g hg
        exact hx g cur q), k3⟩
    · subst q1
      subst q2
      exact ⟨z, by rw [← lx]; simp, hz, hl⟩
  · rcases get_snoc _ _ _ _ hi with ⟨a1, a2⟩ | ⟨a1, a2⟩ <;> rcases get_snoc _ _ _ _ hj with ⟨b1, b2⟩ | ⟨b1, b2⟩
    · exact h.kl.ap i j g z1 z2 a2 b2 e1 e2
    · subst b2
      exact absurd e1 (hn i g z1 a2 e2)
    · subst a2
      exact absurd e2 (hn j g z2 b2 e1)
    · omega
  · rcases get_snoc _ _ _ _ hl' with ⟨q1, q2⟩ | ⟨q1, q2⟩
    · obtain ⟨z', k1, k2⟩ := h.cs i l' q2
      exact ⟨z', by rw [List.getElem?_append_left (by omega)]; exact k1, row_at k2 (fun g hg => by
        obtain ⟨_, cur, q⟩ := rowBlk k2 g hg
        exact hx g cur q)⟩
    · subst q1
      subst q2
      exact ⟨zc, by rw [← ly]; simp, hc⟩
/-- A list copied behind nothing. -/
theorem cp_any (hI : KI T TT TTT TB s by_) (hs : ∀ a, (c a).length = s) (h1c : ∀ a, ∀ v ∈ c a, v.oneCell' = true) {ad : Option Addr} {cc : Nat} {l : List α} (ty : TypeId) (h : RdF W ad (fc c l)) (hn : l.length ≤ 1000000) (hc : ad = none → cc = 0) : ∃ v' W', (Builtin.append_ #[TT, TT] ty #[.slice none 0 0, .slice ad l.length cc]).run Tryz.prog W = .ok v' W' ∧ (∃ a' c', v' = .slice a' l.length c') ∧ W'.ownsRow W.heap.size T s v' l.length (fc c l) ∧ Below W.heap.size W W' := by
  obtain ⟨ic, zc, hic, hz0, hz1, hz2, hz3⟩ := hI.iT
  have hnil := World.ownsRow_nil W W.heap.size T s
  cases ad with
  | none =>
    have hl0 : l = [] := by
      cases l with
      | nil => rfl
      | cons a r =>
        have hs0 := hI.s0
        obtain ⟨b, off, e, _⟩ := h (fun e => by
          have := fc_len hs (a :: r)
          rw [e, List.length_cons, Nat.succ_mul] at this
          simp at this
          omega)
        cases e
    subst hl0
    obtain rfl := hc rfl
    have hap := run_append_owned_none (P := Tryz.prog) W W.heap.size TT ty T ic s hI.uT hic _ _ _ hnil
    exact ⟨_, _, hap, ⟨none, 0, rfl⟩, hnil, Below.refl _ _⟩
  | some a =>
    have hnews : ∀ j u, (fc c l)[j]? = some u → W.cell? (a.add j) = some u := by
      intro j u hj
      obtain ⟨b, off, e, _, hat⟩ := h (fun e => by rw [e] at hj; simp at hj)
      obtain rfl := Option.some.inj e
      exact hat.src j u hj
    have hb0 := hI.b0
    have hmul : (0 + l.length) * by_ ≤ (0 + l.length) * 1000 := Nat.mul_le_mul_left _ hb0
    obtain ⟨v', W', hr, h2, h3, _, _⟩ := run_append_own_at (P := Tryz.prog) W W.heap.size TT ty T ic _ s by_ hI.uT hic hz0 hz1 hz2 hz3 hI.s0 (.slice none 0 0) 0 [] hnil a l.length cc (fc c l) (fc_len hs l) hnews (fc_one h1c l) (by unfold maxLen; omega) (by omega) (Nat.le_refl _)
    refine ⟨v', W', hr, ?_, by simpa using h2, ⟨h3.os, h3.tape, h3.output, h3.size, fun q hq => h3.block q hq (by simp [Value.ownBlock])⟩⟩
    obtain ⟨ad', cap', e, _⟩ := rowForm h2
    exact ⟨ad', cap', by simpa using e⟩
end
theorem stepG_buildG {G : Type} {P : Program} {md : Region.Mode} {ops : Array Oper} {Q : Exit → Act → World → Prop} {X0 : Array Value} {val : G → Nat → Value} {J : G → (Nat → Bool) → World → Prop} {i : Nat} {o : Oper} (hi : ops[i]? = some o) (hg : o.guard = none) (t : TypeId) (x : Operand) (v : G → Value) (ho : o.op = .buildSlice t 1 #[(0, x)]) (hx : ∀ g, rdo md ops X0 (val g) i o x = some (v g))
    (h : ∀ g d w, J g d w → d i = false → (∀ j, bindsOn md o j = true → d j = true) → (∀ j oj, ops[j]? = some oj → d j = true → ∀ k, bindsOn md oj k = true → d k = true) → ∃ g' w', (Instr.buildSlice t 1 #[(0, v g)]).run P w = .ok (val g' i) w' ∧ (∀ j, d j = true → val g' j = val g j) ∧ J g' (fun j => if j = i then true else d j) w') : StepG P md ops Q X0 val J i o := by
  intro g d a w hJ hun hdep hcl hS
  have hS' : Seen md ops X0 (val g) i o a := hS
  obtain ⟨g', w', h1, h2, h3⟩ := h g d w hJ hun hdep hcl
  unfold wpOp
  rw [hi]
  simp only [Region.wanted, hg, if_true]
  refine .inl ?_
  unfold Oper.wp execOp
  simp only [ho, List.map_toArray, List.map_cons, List.map_nil, hS'.eval (hx g), Sem.run_bind, h1, Result.andThen_ok, Sem.run_pure, Oper.upon_value]
  exact ⟨g', h2, rfl, h3⟩
theorem stepG_append {G : Type} {P : Program} {md : Region.Mode} {ops : Array Oper} {Q : Exit → Act → World → Prop} {X0 : Array Value} {val : G → Nat → Value} {J : G → (Nat → Bool) → World → Prop} {i : Nat} {o : Oper} (hi : ops[i]? = some o) (hg : o.guard = none) (t : TypeId) (x y : Operand) (vx vy : G → Value) (ho : o.op = .call { callee := .builtin .append, args := #[x, y], argTypes := #[t, t] }) (hx : ∀ g, rdo md ops X0 (val g) i o x = some (vx g)) (hy : ∀ g, rdo md ops X0 (val g) i o y = some (vy g))
    (h : ∀ g d w, J g d w → d i = false → (∀ j, bindsOn md o j = true → d j = true) → (∀ j oj, ops[j]? = some oj → d j = true → ∀ k, bindsOn md oj k = true → d k = true) → ∃ g' w', (Builtin.append_ #[t, t] o.type #[vx g, vy g]).run P w = .ok (val g' i) w' ∧ (∀ j, d j = true → val g' j = val g j) ∧ J g' (fun j => if j = i then true else d j) w') : StepG P md ops Q X0 val J i o := by
  intro g d a w hJ hun hdep hcl hS
  have hS' : Seen md ops X0 (val g) i o a := hS
  obtain ⟨g', w', h1, h2, h3⟩ := h g d w hJ hun hdep hcl
  unfold wpOp
  rw [hi]
  simp only [Region.wanted, hg, if_true]
  refine .inl ?_
  unfold Oper.wp execOp
  simp only [ho, resolve, invoke, builtin, List.map_toArray, List.map_cons, List.map_nil, hS'.eval (hx g), hS'.eval (hy g), Sem.run_bind, h1, Result.andThen_ok, Sem.run_pure, Oper.upon_value]
  exact ⟨g', h2, rfl, h3⟩
theorem stepG_ofC {G : Type} {P : Program} {md : Region.Mode} {ops : Array Oper} {Q : Exit → Act → World → Prop} {X0 : Array Value} {val : G → Nat → Value} {J : G → (Nat → Bool) → World → Prop} {i : Nat} {o : Oper}
    (h : ∀ g d, d i = false → (∀ j, bindsOn md o j = true → d j = true) → (∀ j oj, ops[j]? = some oj → d j = true → ∀ k, bindsOn md oj k = true → d k = true) → StepAt P md ops Q X0 (val g) (J g d) (J g (fun j => if j = i then true else d j)) i o) : StepG P md ops Q X0 val J i o := by
  intro g d a w hJ hun hdep hcl hS
  exact wpOp_mono (fun a' w' hq => ⟨g, fun _ _ => rfl, hq.1, hq.2⟩) (h g d hun hdep hcl a w hJ hS)
/-- The book's cells, two of them put. -/
def put2 (C : Array Value) (i : Nat) (u v : Value) : Array Value := (C.setIfInBounds i u).setIfInBounds (i + 1) v
theorem put2_0 {C : Array Value} {i : Nat} (h : i + 1 < C.size) (u v : Value) : (put2 C i u v)[i]? = some u := by
  unfold put2
  rw [Array.getElem?_setIfInBounds_ne (by omega), Array.getElem?_setIfInBounds_self_of_lt (by omega)]
theorem put2_1 {C : Array Value} {i : Nat} (h : i + 1 < C.size) (u v : Value) : (put2 C i u v)[i + 1]? = some v := by
  unfold put2
  rw [Array.getElem?_setIfInBounds_self_of_lt (by simpa using h)]
theorem put2_ne {C : Array Value} {i j : Nat} (h : j ≠ i) (h' : j ≠ i + 1) (u v : Value) : (put2 C i u v)[j]? = C[j]? := by
  unfold put2
  rw [Array.getElem?_setIfInBounds_ne (by omega), Array.getElem?_setIfInBounds_ne (by omega)]
theorem put2_sz (C : Array Value) (i : Nat) (u v : Value) : (put2 C i u v).size = C.size := by simp [put2]
theorem put2_v {C : Array Value} {i : Nat} {v : Value} (hv : C[i + 1]? = some v) (u : Value) : C.setIfInBounds i u = put2 C i u v := by
  refine Array.ext_getElem? fun j => ?_
  have hlt := (Array.getElem?_eq_some_iff.1 hv).1
  by_cases e : j = i + 1
  · subst e
    rw [put2_1 hlt, Array.getElem?_setIfInBounds_ne (by omega), hv]
  · unfold put2
    rw [Array.getElem?_setIfInBounds_ne (xs := C.setIfInBounds i u) (by omega)]
theorem put2_set (C : Array Value) (i : Nat) (u v v' : Value) : (put2 C i u v).setIfInBounds (i + 1) v' = put2 C i u v' := by
  refine Array.ext_getElem? fun j => ?_
  unfold put2
  by_cases e : j = i + 1
  · subst e
    simp [Array.getElem?_setIfInBounds]
  · have q : i + 1 ≠ j := fun h => e h.symm
    rw [Array.getElem?_setIfInBounds_ne q, Array.getElem?_setIfInBounds_ne q, Array.getElem?_setIfInBounds_ne q]
/-- While the copy is made and kept. -/
structure JZ (T TT TB : TypeId) (s i0 base bb k n : Nat) (ad : Option Addr) (cs : List Value) (x y : List Value) (u v u0 : Value) (C : Array Value) (Z : World) (g : Value × Nat × Value) (d6 d7 d8 d11 : Bool) (W : World) : Prop where
  kb : W.heap[bb]? = some (.cells (put2 C i0 u (if d11 = true then g.2.2 else v)) TB (0, 0))
  r6 : W.ownsRow base TT 1 u (k + 1) x
  r7 : W.ownsRow base TT 1 (if d8 = true then g.2.2 else v) (if d8 = true then k + 1 else k) (if d8 = true then y ++ [g.1] else y)
  ap : ∀ q, u.ownBlock = some q → (if d8 = true then g.2.2 else v).ownBlock ≠ some q
  cp : d6 = true → (∃ a' c', g.1 = .slice a' n c') ∧ W.ownsRow Z.heap.size T s g.1 n cs
  bl : d7 = true → d8 = false → W.heap[g.2.1]? = some (.cells #[g.1] TT (0, 0)) ∧ v.ownBlock ≠ some g.2.1
  fm : d8 = true → ∃ a' c', g.2.2 = .slice a' (k + 1) c'
  rd : d6 = false → RdF W ad cs
  kp : Fk bb u0 v Z W
  bz : base ≤ W.heap.size
section
variable {T TT TTT TB : TypeId} {s by_ i0 base bb k n : Nat} {ad : Option Addr} {cs : List Value} {x y : List Value} {u v u0 : Value} {C : Array Value} {Z : World} {g : Value × Nat × Value} {d6 d7 d8 d11 : Bool} {W : World}
theorem JZ.copy (h : JZ T TT TB s i0 base bb k n ad cs x y u v u0 C Z g d6 false false d11 W) {V : World} {z : Value} (hb : Below W.heap.size W V) (hx : ∃ a' c', z = .slice a' n c') (ho : V.ownsRow W.heap.size T s z n cs) : JZ T TT TB s i0 base bb k n ad cs x y u v u0 C Z (z, g.2) true false false d11 V :=
  ⟨(hb.block _ (lt_at h.kb)).trans h.kb, row_below h.r6 hb, row_below h.r7 hb, h.ap, fun _ => ⟨hx, row_base ho h.kp.size⟩, (fun e => by cases e), h.fm, (fun e => by cases e), h.kp.below hb, Nat.le_trans h.bz hb.size⟩
theorem JZ.build (h : JZ T TT TB s i0 base bb k n ad cs x y u v u0 C Z g true d7 d8 d11 W) : JZ T TT TB s i0 base bb k n ad cs x y u v u0 C Z (g.1, W.heap.size, g.2.2) true true d8 d11 (W.alloc (.cells #[g.1] TT)) := by
  have hb := al1 W (.cells #[g.1] TT)
  have h7 := h.r7
  refine ⟨(hb.block _ (lt_at h.kb)).trans h.kb, row_below h.r6 hb, row_below h7 hb, h.ap, fun q => ⟨(h.cp q).1, row_below (h.cp q).2 hb⟩, fun _ e => ⟨new_at rfl, fun e2 => ?_⟩, h.fm, (fun e => by cases e), h.kp.below hb, Nat.le_trans h.bz hb.size⟩
  subst e
  have := (row_lt h7 _ e2).2
  exact absurd this (Nat.lt_irrefl _)
theorem row_ty {V V' : World} {t1 t2 : TypeId} {s1 s2 b1 b2 n1 n2 : Nat} {a1 a2 : Value} {x1 x2 : List Value} (ht : t1 ≠ t2) (h1 : V.ownsRow b1 t1 s1 a1 n1 x1) (h2 : V.ownsRow b2 t2 s2 a2 n2 x2) (hg : V.grownBy V' a2.ownBlock) : V'.ownsRow b1 t1 s1 a1 n1 x1 :=
  row_off h1 hg (fun b e e2 => by
    obtain ⟨_, c2, k2⟩ := rowBlk h2 b e
    exact row_type h1 k2 (fun e => ht e.symm) e2)
theorem bb_row {W : World} {bb base size n : Nat} {t TB : TypeId} {C : Array Value} {x : Value} {xs : List Value} (h : W.heap[bb]? = some (.cells C TB (0, 0))) (hr : W.ownsRow base t size x n xs) (ht : TB ≠ t) : x.ownBlock ≠ some bb := row_type hr h ht
theorem JZ.app (hI : KI T TT TTT TB s by_) (h : JZ T TT TB s i0 base bb k n ad cs x y u v u0 C Z g true true false false W) (hk : k < 400) (ty : TypeId) : ∃ z V, (Builtin.append_ #[TTT, TTT] ty #[v, .slice (some ⟨g.2.1, 0, none⟩) 1 1]).run Tryz.prog W = .ok z V ∧ JZ T TT TB s i0 base bb k n ad cs x y u v u0 C Z (g.1, g.2.1, z) true true true false V := by
  obtain ⟨ic, hic, hz0, hz1, hz2⟩ := hI.iS
  obtain ⟨⟨a', c', e1⟩, hcr⟩ := h.cp rfl
  have h6 := h.r6
  obtain ⟨hb1, hb2⟩ := h.bl rfl rfl
  have h7' : W.ownsRow base TT 1 v k y := h.r7
  have hnews : ∀ (j : Nat) (q : Value), [g.1][j]? = some q → W.cell? ((⟨g.2.1, 0, none⟩ : Addr).add j) = some q := by
    intro j q hj
    rw [add_pl, Nat.zero_add, cell_at hb1 j, ← hj]
    simp
  obtain ⟨z, V, hr, h2, h3, _, h5⟩ := run_append_own_at (P := Tryz.prog) W base TTT ty TT ic _ 1 24 hI.uS hic hz0 hz1 hz2 rfl (by decide) v k y h7' ⟨g.2.1, 0, none⟩ 1 1 [g.1] rfl hnews (by rw [e1]; simp [Value.oneCell']) (by unfold maxLen; omega) (by omega) h.bz
  have hapv : ∀ q, u.ownBlock = some q → v.ownBlock ≠ some q := h.ap
  refine ⟨z, V, hr, ⟨(h3.block _ (lt_at h.kb) (fun e => bb_row h.kb h7' hI.nS e.symm)).trans h.kb, row_off h6 h3 (fun q hq hq2 => hapv q hq2 hq), h2, fun q hq => ?_, fun _ => ⟨⟨a', c', e1⟩, row_ty hI.nT hcr h7' h3⟩, (fun _ e => by cases e), fun _ => ?_, (fun e => by cases e), h.kp.grown h3 (fun q e => .inr (.inr (.inl e))), Nat.le_trans h.bz h3.size⟩⟩
  · show z.ownBlock ≠ some q
    rcases h5 with h5 | h5
    · rw [h5]; exact hapv q hq
    · rw [h5]
      have := (row_lt h6 q hq).2
      simp only [ne_eq, Option.some.injEq]
      omega
  · obtain ⟨a2, c2, e2, _⟩ := rowForm h2
    exact ⟨a2, c2, e2⟩
theorem JZ.store (hI : KI T TT TTT TB s by_) (h : JZ T TT TB s i0 base bb k n ad cs x y u v u0 C Z g true true true d11 W) (hst : ∀ a n c, (Instr.storeAt TTT (.pointer (some ⟨bb, i0 + 1, none⟩)) (.slice a n c)).run Tryz.prog W = .ok () (W.setCell ⟨bb, i0 + 1, none⟩ (.slice a n c))) : ∃ V, (Instr.storeAt TTT (.pointer (some ⟨bb, i0 + 1, none⟩)) g.2.2).run Tryz.prog W = .ok () V ∧ JZ T TT TB s i0 base bb k n ad cs x y u v u0 C Z g true true true true V := by
  have h6 := h.r6
  obtain ⟨a2, c2, e2⟩ := h.fm rfl
  have h7' : W.ownsRow base TT 1 g.2.2 (k + 1) (y ++ [g.1]) := h.r7
  have hs := hst a2 (k + 1) c2
  rw [← e2] at hs
  have hcr := (h.cp rfl).2
  have hkb := heap_setCell_same _ _ (i0 + 1) _ _ g.2.2 h.kb
  rw [put2_set] at hkb
  exact ⟨_, hs, ⟨hkb, row_set h6 (bb_row h.kb h6 hI.nS) _, row_set h7' (bb_row h.kb h7' hI.nS) _, h.ap, fun _ => ⟨(h.cp rfl).1, row_set hcr (bb_row h.kb hcr hI.nB) _⟩, (fun _ e => by cases e), h.fm, (fun e => by cases e), h.kp.set, by simpa using h.bz⟩⟩
end
section
variable {α : Type} {c : α → List Value} {s : Nat} {T TT : TypeId} {base : Nat} {W V : World} {u : Value} {x : List Value} {L : List (List α)}
theorem Bx.low (hb : Bx x W V) (h : Kl c s T TT base W u x L) : base ≤ W.heap.size → Below base W V := fun hz => ⟨hb.os, hb.tape, hb.output, hb.size, fun k hk => hb.block k (by omega) (fun i z hz e => by
  have := (h.ltx hz e).1
  omega)⟩
theorem row_bxt {base' size n : Nat} {t : TypeId} {v : Value} {xs : List Value} (hr : W.ownsRow base' t size v n xs) (h : Kl c s T TT base W u x L) (hb : Bx x W V) (ht : t ≠ T) : V.ownsRow base' t size v n xs := row_at hr (fun g hg => by
  obtain ⟨_, cur, q⟩ := rowBlk hr g hg
  exact hb.block g (lt_at q) (h.px q ht))
theorem Gkn.bxt {β : Type} {mk : Nat → Nat → β} {c' : β → List Value} {s' : Nat} {T' : TypeId} {base' s0 : Nat} {x' O : List Value} (hr : Gkn mk c' s' T' base' s0 x' W O) (h : Kl c s T TT base W u x L) (hb : Bx x W V) (ht : T' ≠ T) : Gkn mk c' s' T' base' s0 x' V O := fun i z hz => by
  obtain ⟨n, h1, h2, h3⟩ := hr i z hz
  exact ⟨n, row_bxt h1 h hb ht, h2, h3⟩
theorem Gkn.carry {β : Type} {mk : Nat → Nat → β} {c' : β → List Value} {s' : Nat} {T' : TypeId} {base' s0 : Nat} {x' O : List Value} (hr : Gkn mk c' s' T' base' s0 x' W O) (hb : Below W.heap.size W V) : Gkn mk c' s' T' base' s0 x' V O := fun i z hz => by
  obtain ⟨n, h1, h2, h3⟩ := hr i z hz
  exact ⟨n, row_below h1 hb, h2, h3⟩
end
/-- What is there behind it. -/
def Kept {α : Type} (c : α → List Value) (s : Nat) (T TT TB : TypeId) (i0 base bb : Nat) (C : Array Value) (u v z : Value) (x : List Value) (w V : World) : Prop := ∃ u' v' x' y' L', Bb TB V bb (put2 C i0 u' v') ∧ Kk c s T TT base V u' v' x' y' L' ∧ Fk bb u v w V ∧ ∀ (i : Nat) (z' : Value), x'[i]? = some z' → z' = z ∨ ∃ j : Nat, x[j]? = some z'
end Go.Proofs.YtngjjcmoekeciaaGreatDoor.Kel
