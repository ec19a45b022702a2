/- A list is kept, of whatever kind: what does not hang on the kind. -/
import Derived.Test.YtklnfbanfgdgcaaGreatDoorJnJ46
import Derived.Test.YtklnfbanfgdgcaaGreatDoorJnJ3
set_option maxHeartbeats 40000000
set_option maxRecDepth 100000
set_option linter.unusedVariables false
namespace Go.Proofs.YtklnfbanfgdgcaaGreatDoor.Kel
open Go.RowKit Go.Shelf Go.Lib

/-- Nothing turns but the book of lists and two of its rows. -/
structure Fk (bb : Nat) (u v : Value) (w V : World) : Prop where
  os : V.os = w.os
  tape : V.tape = w.tape
  output : V.output = w.output
  size : w.heap.size ≤ V.heap.size
  block : ∀ q, q < w.heap.size → q ≠ bb → u.ownBlock ≠ some q → v.ownBlock ≠ some q → V.heap[q]? = w.heap[q]?
theorem Fk.refl (bb : Nat) (u v : Value) (w : World) : Fk bb u v w w := ⟨rfl, rfl, rfl, Nat.le_refl _, fun _ _ _ _ _ => rfl⟩
theorem Fk.below {bb : Nat} {u v : Value} {w W V : World} (h : Fk bb u v w W) (hb : Below W.heap.size W V) : Fk bb u v w V := ⟨hb.os.trans h.os, hb.tape.trans h.tape, hb.output.trans h.output, Nat.le_trans h.size hb.size, fun q hq h1 h2 h3 => (hb.block q (Nat.lt_of_lt_of_le hq h.size)).trans (h.block q hq h1 h2 h3)⟩
theorem Fk.grown {bb : Nat} {u v : Value} {w W V : World} {r : Option Nat} (h : Fk bb u v w W) (hg : W.grownBy V r) (hr : ∀ q, r = some q → q = bb ∨ u.ownBlock = some q ∨ v.ownBlock = some q ∨ w.heap.size ≤ q) : Fk bb u v w V :=
  ⟨hg.os.trans h.os, hg.tape.trans h.tape, hg.output.trans h.output, Nat.le_trans h.size hg.size, fun q hq h1 h2 h3 => (hg.block q (Nat.lt_of_lt_of_le hq h.size) (fun e => by
    rcases hr q e.symm with k | k | k | k
    · exact h1 k
    · exact h2 k
    · exact h3 k
    · omega)).trans (h.block q hq h1 h2 h3)⟩
theorem Fk.set {bb j : Nat} {u v a : Value} {w W : World} (h : Fk bb u v w W) : Fk bb u v w (W.setCell ⟨bb, j, none⟩ a) :=
  ⟨h.os, h.tape, h.output, by simpa using h.size, fun q hq h1 h2 h3 => (Below.heap_setCell _ _ _ _ h1).trans (h.block q hq h1 h2 h3)⟩
/-- What is kept, and the copies. -/
structure Kk {α : Type} (c : α → List Value) (s : Nat) (T TT : TypeId) (base : Nat) (W : World) (u v : Value) (x y : List Value) (L : List (List α)) : Prop where
  kl : Kl c s T TT base W u x L
  cr : W.ownsRow base TT 1 v L.length y
  cs : ∀ (i : Nat) (l : List α), L[i]? = some l → ∃ z, y[i]? = some z ∧ W.ownsRow base T s z l.length (fc c l)
  uv : ∀ q, u.ownBlock = some q → v.ownBlock ≠ some q
section
variable {α : Type} {c : α → List Value} {s : Nat} {T TT TTT TB : TypeId} {by_ base bb : Nat} {W V : World} {u v : Value} {x y : List Value} {L : List (List α)} {C : Array Value}
theorem Kk.cl (h : Kk c s T TT base W u v x y L) : Cl c TT base W v y L := ⟨h.cr, fun i l hl => by
  obtain ⟨z, h1, h2⟩ := h.cs i l hl
  obtain ⟨ad, c', e, hr, _⟩ := own_rd h2
  exact ⟨ad, c', by rw [h1, e], hr⟩⟩
theorem Kk.leny (h : Kk c s T TT base W u v x y L) : y.length = L.length := by
  have := h.cr.1
  omega
theorem Kk.nil : Kk c s T TT base W (.slice none 0 0) (.slice none 0 0) [] [] ([] : List (List α)) :=
  ⟨⟨World.ownsRow_nil _ _ _ _, fun _ _ hl => (by cases hl), fun _ _ _ _ _ hz => (by cases hz), Nat.zero_le _⟩, World.ownsRow_nil _ _ _ _, fun _ _ hl => (by cases hl), fun _ hq => (by cases hq)⟩
theorem Kk.move (h : Kk c s T TT base W u v x y L) (e : ∀ (g : Nat) (cur : Array Value) (t : TypeId), base ≤ g → W.heap[g]? = some (.cells cur t (0, 0)) → (t = T ∨ (t = TT ∧ (u.ownBlock = some g ∨ v.ownBlock = some g))) → V.heap[g]? = W.heap[g]?) : Kk c s T TT base V u v x y L :=
  ⟨h.kl.move (fun g hg => by
      obtain ⟨h0, cur, h1⟩ := rowBlk h.kl.row g hg
      exact e g cur TT h0 h1 (.inr ⟨rfl, .inl hg⟩)) (fun i z g hz hg => by
      obtain ⟨cur, h1⟩ := h.kl.tyx hz hg
      exact e g cur T (h.kl.ltx hz hg).1 h1 (.inl rfl)),
    row_at h.cr (fun g hg => by
      obtain ⟨h0, cur, h1⟩ := rowBlk h.cr g hg
      exact e g cur TT h0 h1 (.inr ⟨rfl, .inr hg⟩)),
    fun i l hl => by
      obtain ⟨z, h1, h2⟩ := h.cs i l hl
      refine ⟨z, h1, row_at h2 (fun g hg => ?_)⟩
      obtain ⟨h0, cur, h3⟩ := rowBlk h2 g hg
      exact e g cur T h0 h3 (.inl rfl), h.uv⟩
theorem Kk.carry (h : Kk c s T TT base W u v x y L) (hb : Below W.heap.size W V) : Kk c s T TT base V u v x y L := h.move (fun g _ _ _ hg _ => hb.block g (lt_at hg))
/-- A list of another kind is kept. -/
theorem Kk.fk {bb : Nat} {TT' : TypeId} {s' base' n n' : Nat} {u' v' : Value} {xs ys : List Value} (h : Kk c s T TT base W u v x y L) (hb : Fk bb u' v' W V) (hB : Bb TB W bb C) (hu : W.ownsRow base' TT' s' u' n xs) (hv : W.ownsRow base' TT' s' v' n' ys) (h1 : TB ≠ T) (h2 : TB ≠ TT) (h3 : TT' ≠ T) (h4 : TT' ≠ TT) : Kk c s T TT base V u v x y L := h.move (fun g cur t _ hg ht => by
  have ht' : t = T ∨ t = TT := ht.imp_right (·.1)
  refine hb.block g (lt_at hg) (fun e => ?_) (fun e => ?_) (fun e => ?_)
  · subst e
    have := hB.symm.trans hg
    simp only [Option.some.injEq, Obj.cells.injEq] at this
    rcases ht' with q | q
    · exact h1 (this.2.1.trans q)
    · exact h2 (this.2.1.trans q)
  · obtain ⟨_, c2, h5⟩ := rowBlk hu g e
    have := h5.symm.trans hg
    simp only [Option.some.injEq, Obj.cells.injEq] at this
    rcases ht' with q | q
    · exact h3 (this.2.1.trans q)
    · exact h4 (this.2.1.trans q)
  · obtain ⟨_, c2, h5⟩ := rowBlk hv g e
    have := h5.symm.trans hg
    simp only [Option.some.injEq, Obj.cells.injEq] at this
    rcases ht' with q | q
    · exact h3 (this.2.1.trans q)
    · exact h4 (this.2.1.trans q))
theorem get_snoc {β : Type} (a : List β) (b : β) (i : Nat) (d : β) (h : (a ++ [b])[i]? = some d) : (i < a.length ∧ a[i]? = some d) ∨ (i = a.length ∧ d = b) := by
  by_cases hi : i < a.length
  · rw [List.getElem?_append_left hi] at h
    exact .inl ⟨hi, h⟩
  · rw [List.getElem?_append_right (by omega)] at h
    have : i - a.length = 0 := by
      have := (List.getElem?_eq_some_iff.1 h).1
      simp at this
      omega
    rw [this] at h
    simp at h
    exact .inr ⟨by omega, h.symm⟩
/-- One more is kept. -/
theorem Kk.app {u' v' z zc : Value} {l : List α} (h : Kk c s T TT base W u v x y L) (hx : ∀ (g : Nat) (cur : Array Value), W.heap[g]? = some (.cells cur T (0, 0)) → V.heap[g]? = W.heap[g]?) (hz : V.ownsRow base T s z l.length (fc c l)) (hc : V.ownsRow base T s zc l.length (fc c l)) (hl : l.length ≤ 1000000) (hk : L.length < 400) (hn : ∀ (i g : Nat) (z' : Value), x[i]? = some z' → z.ownBlock = some g → z'.ownBlock ≠ some g)
    (hu : V.ownsRow base TT 1 u' (L.length + 1) (x ++ [z])) (hv : V.ownsRow base TT 1 v' (L.length + 1) (y ++ [zc])) (huv : ∀ q, u'.ownBlock = some q → v'.ownBlock ≠ some q) : Kk c s T TT base V u' v' (x ++ [z]) (y ++ [zc]) (L ++ [l]) := by
  have lx := h.kl.lenx
  have ly := h.leny
  refine ⟨⟨by rw [List.length_append]; exact hu, fun i l' hl' => ?_, fun i j g z1 z2 hi hj e1 e2 => ?_, by rw [List.length_append]; simp; omega⟩, by rw [List.length_append]; exact hv, fun i l' hl' => ?_, huv⟩
  · rcases get_snoc _ _ _ _ hl' with ⟨q1, q2⟩ | ⟨q1, q2⟩
    · obtain ⟨z', k1, k2, k3⟩ := h.kl.ks i l' q2
      exact ⟨z', by rw [List.getElem?_append_left (by omega)]; exact k1, row_at k2 (fun g hg => by
        obtain ⟨_, cur, q⟩ := rowBlk k2 g hg
        exact hx g cur q), k3⟩
    · subst q1
      subst q2
      exact ⟨z, by rw [← lx]; simp, hz, hl⟩
  · rcases get_snoc _ _ _ _ hi with ⟨a1, a2⟩ | ⟨a1, a2⟩ <;> rcases get_snoc _ _ _ _ hj with ⟨b1, b2⟩ | ⟨b1, b2⟩
    · exact h.kl.ap i j g z1 z2 a2 b2 e1 e2
    · subst b2
      exact absurd e1 (hn i g z1 a2 e2)
    · subst a2
      exact absurd e2 (hn j g z2 b2 e1)
    · omega
  · rcases get_snoc _ _ _ _ hl' with ⟨q1, q2⟩ | ⟨q1, q2⟩
    · obtain ⟨z', k1, k2⟩ := h.cs i l' q2
      exact ⟨z', by rw [List.getElem?_append_left (by omega)]; exact k1, row_at k2 (fun g hg => by
        obtain ⟨_, cur, q⟩ := rowBlk k2 g hg
        exact hx g cur q)⟩
    · subst q1
      subst q2
      exact ⟨zc, by rw [← ly]; simp, hc⟩
/-- A list copied behind nothing. -/
theorem cp_any (hI : KI T TT TTT TB s by_) (hs : ∀ a, (c a).length = s) (h1c : ∀ a, ∀ v ∈ c a, v.oneCell' = true) {ad : Option Addr} {cc : Nat} {l : List α} (ty : TypeId) (h : RdF W ad (fc c l)) (hn : l.length ≤ 1000000) (hc : ad = none → cc = 0) : ∃ v' W', (Builtin.append_ #[TT, TT] ty #[.slice none 0 0, .slice ad l.length cc]).run Tryz.prog W = .ok v' W' ∧ (∃ a' c', v' = .slice a' l.length c') ∧ W'.ownsRow W.heap.size T s v' l.length (fc c l) ∧ Below W.heap.size W W' := by
  obtain ⟨ic, zc, hic, hz0, hz1, hz2, hz3⟩ := hI.iT
  have hnil := World.ownsRow_nil W W.heap.size T s
  cases ad with
  | none =>
    have hl0 : l = [] := by
      cases l with
      | nil => rfl
      | cons a r =>
        have hs0 := hI.s0
        obtain ⟨b, off, e, _⟩ := h (fun e => by
          have := fc_len hs (a :: r)
          rw [e, List.length_cons, Nat.succ_mul] at this
          simp at this
          omega)
        cases e
    subst hl0
    obtain rfl := hc rfl
    have hap := run_append_owned_none (P := Tryz.prog) W W.heap.size TT ty T ic s hI.uT hic _ _ _ hnil
    exact ⟨_, _, hap, ⟨none, 0, rfl⟩, hnil, Below.refl _ _⟩
  | some a =>
    have hnews : ∀ j u, (fc c l)[j]? = some u → W.cell? (a.add j) = some u := by
      intro j u hj
      obtain ⟨b, off, e, _, hat⟩ := h (fun e => by rw [e] at hj; simp at hj)
      obtain rfl := Option.some.inj e
      exact hat.src j u hj
    have hb0 := hI.b0
    have hmul : (0 + l.length) * by_ ≤ (0 + l.length) * 1000 := Nat.mul_le_mul_left _ hb0
    obtain ⟨v', W', hr, h2, h3, _, _⟩ := run_append_own_at (P := Tryz.prog) W W.heap.size TT ty T ic _ s by_ hI.uT hic hz0 hz1 hz2 hz3 hI.s0 (.slice none 0 0) 0 [] hnil a l.length cc (fc c l) (fc_len hs l) hnews (fc_one h1c l) (by unfold maxLen; omega) (by omega) (Nat.le_refl _)
    refine ⟨v', W', hr, ?_, by simpa using h2, ⟨h3.os, h3.tape, h3.output, h3.size, fun q hq => h3.block q hq (by simp [Value.ownBlock])⟩⟩
    obtain ⟨ad', cap', e, _⟩ := rowForm h2
    exact ⟨ad', cap', by simpa using e⟩
end
theorem stepG_buildG {G : Type} {P : Program} {md : Region.Mode} {ops : Array Oper} {Q : Exit → Act → World → Prop} {X0 : Array Value} {val : G → Nat → Value} {J : G → (Nat → Bool) → World → Prop} {i : Nat} {o : Oper} (hi : ops[i]? = some o) (hg : o.guard = none) (t : TypeId) (x : Operand) (v : G → Value) (ho : o.op = .buildSlice t 1 #[(0, x)]) (hx : ∀ g, rdo md ops X0 (val g) i o x = some (v g))
    (h : ∀ g d w, J g d w → d i = false → (∀ j, bindsOn md o j = true → d j = true) → (∀ j oj, ops[j]? = some oj → d j = true → ∀ k, bindsOn md oj k = true → d k = true) → ∃ g' w', (Instr.buildSlice t 1 #[(0, v g)]).run P w = .ok (val g' i) w' ∧ (∀ j, d j = true → val g' j = val g j) ∧ J g' (fun j => if j = i then true else d j) w') : StepG P md ops Q X0 val J i o := by
  intro g d a w hJ hun hdep hcl hS
  have hS' : Seen md ops X0 (val g) i o a := hS
  obtain ⟨g', w', h1, h2, h3⟩ := h g d w hJ hun hdep hcl
  unfold wpOp
  rw [hi]
  simp only [Region.wanted, hg, if_true]
  refine .inl ?_
  unfold Oper.wp execOp
  simp only [ho, List.map_toArray, List.map_cons, List.map_nil, hS'.eval (hx g), Sem.run_bind, h1, Result.andThen_ok, Sem.run_pure, Oper.upon_value]
  exact ⟨g', h2, rfl, h3⟩
theorem stepG_append {G : Type} {P : Program} {md : Region.Mode} {ops : Array Oper} {Q : Exit → Act → World → Prop} {X0 : Array Value} {val : G → Nat → Value} {J : G → (Nat → Bool) → World → Prop} {i : Nat} {o : Oper} (hi : ops[i]? = some o) (hg : o.guard = none) (t : TypeId) (x y : Operand) (vx vy : G → Value) (ho : o.op = .call { callee := .builtin .append, args := #[x, y], argTypes := #[t, t] }) (hx : ∀ g, rdo md ops X0 (val g) i o x = some (vx g)) (hy : ∀ g, rdo md ops X0 (val g) i o y = some (vy g))
    (h : ∀ g d w, J g d w → d i = false → (∀ j, bindsOn md o j = true → d j = true) → (∀ j oj, ops[j]? = some oj → d j = true → ∀ k, bindsOn md oj k = true → d k = true) → ∃ g' w', (Builtin.append_ #[t, t] o.type #[vx g, vy g]).run P w = .ok (val g' i) w' ∧ (∀ j, d j = true → val g' j = val g j) ∧ J g' (fun j => if j = i then true else d j) w') : StepG P md ops Q X0 val J i o := by
  intro g d a w hJ hun hdep hcl hS
  have hS' : Seen md ops X0 (val g) i o a := hS
  obtain ⟨g', w', h1, h2, h3⟩ := h g d w hJ hun hdep hcl
  unfold wpOp
  rw [hi]
  simp only [Region.wanted, hg, if_true]
  refine .inl ?_
  unfold Oper.wp execOp
  simp only [ho, resolve, invoke, builtin, List.map_toArray, List.map_cons, List.map_nil, hS'.eval (hx g), hS'.eval (hy g), Sem.run_bind, h1, Result.andThen_ok, Sem.run_pure, Oper.upon_value]
  exact ⟨g', h2, rfl, h3⟩
theorem stepG_ofC {G : Type} {P : Program} {md : Region.Mode} {ops : Array Oper} {Q : Exit → Act → World → Prop} {X0 : Array Value} {val : G → Nat → Value} {J : G → (Nat → Bool) → World → Prop} {i : Nat} {o : Oper}
    (h : ∀ g d, d i = false → (∀ j, bindsOn md o j = true → d j = true) → (∀ j oj, ops[j]? = some oj → d j = true → ∀ k, bindsOn md oj k = true → d k = true) → StepAt P md ops Q X0 (val g) (J g d) (J g (fun j => if j = i then true else d j)) i o) : StepG P md ops Q X0 val J i o := by
  intro g d a w hJ hun hdep hcl hS
  exact wpOp_mono (fun a' w' hq => ⟨g, fun _ _ => rfl, hq.1, hq.2⟩) (h g d hun hdep hcl a w hJ hS)
/-- The book's cells, two of them put. -/
def put2 (C : Array Value) (i : Nat) (u v : Value) : Array Value := (C.setIfInBounds i u).setIfInBounds (i + 1) v
theorem put2_0 {C : Array Value} {i : Nat} (h : i + 1 < C.size) (u v : Value) : (put2 C i u v)[i]? = some u := by
  unfold put2
  rw [Array.getElem?_setIfInBounds_ne (by omega), Array.getElem?_setIfInBounds_self_of_lt (by omega)]
theorem put2_1 {C : Array Value} {i : Nat} (h : i + 1 < C.size) (u v : Value) : (put2 C i u v)[i + 1]? = some v := by
  unfold put2
  rw [Array.getElem?_setIfInBounds_self_of_lt (by simpa using h)]
theorem put2_ne {C : Array Value} {i j : Nat} (h : j ≠ i) (h' : j ≠ i + 1) (u v : Value) : (put2 C i u v)[j]? = C[j]? := by
  unfold put2
  rw [Array.getElem?_setIfInBounds_ne (by omega), Array.getElem?_setIfInBounds_ne (by omega)]
theorem put2_sz (C : Array Value) (i : Nat) (u v : Value) : (put2 C i u v).size = C.size := by simp [put2]
theorem put2_v {C : Array Value} {i : Nat} {v : Value} (hv : C[i + 1]? = some v) (u : Value) : C.setIfInBounds i u = put2 C i u v := by
  refine Array.ext_getElem? fun j => ?_
  have hlt := (Array.getElem?_eq_some_iff.1 hv).1
  by_cases e : j = i + 1
  · subst e
    rw [put2_1 hlt, Array.getElem?_setIfInBounds_ne (by omega), hv]
  · unfold put2
    rw [Array.getElem?_setIfInBounds_ne (xs := C.setIfInBounds i u) (by omega)]
theorem put2_set (C : Array Value) (i : Nat) (u v v' : Value) : (put2 C i u v).setIfInBounds (i + 1) v' = put2 C i u v' := by
  refine Array.ext_getElem? fun j => ?_
  unfold put2
  by_cases e : j = i + 1
  · subst e
    simp [Array.getElem?_setIfInBounds]
  · have q : i + 1 ≠ j := fun h => e h.symm
    rw [Array.getElem?_setIfInBounds_ne q, Array.getElem?_setIfInBounds_ne q, Array.getElem?_setIfInBounds_ne q]
/-- While the copy is made and kept. -/
structure JZ (T TT TB : TypeId) (s i0 base bb k n : Nat) (ad : Option Addr) (cs : List Value) (x y : List Value) (u v u0 : Value) (C : Array Value) (Z : World) (g : Value × Nat × Value) (d6 d7 d8 d11 : Bool) (W : World) : Prop where
  kb : W.heap[bb]? = some (.cells (put2 C i0 u (if d11 = true then g.2.2 else v)) TB (0, 0))
  r6 : W.ownsRow base TT 1 u (k + 1) x
  r7 : W.ownsRow base TT 1 (if d8 = true then g.2.2 else v) (if d8 = true then k + 1 else k) (if d8 = true then y ++ [g.1] else y)
  ap : ∀ q, u.ownBlock = some q → (if d8 = true then g.2.2 else v).ownBlock ≠ some q
  cp : d6 = true → (∃ a' c', g.1 = .slice a' n c') ∧ W.ownsRow Z.heap.size T s g.1 n cs
  bl : d7 = true → d8 = false → W.heap[g.2.1]? = some (.cells #[g.1] TT (0, 0)) ∧ v.ownBlock ≠ some g.2.1
  fm : d8 = true → ∃ a' c', g.2.2 = .slice a' (k + 1) c'
  rd : d6 = false → RdF W ad cs
  kp : Fk bb u0 v Z W
  bz : base ≤ W.heap.size
section
variable {T TT TTT TB : TypeId} {s by_ i0 base bb k n : Nat} {ad : Option Addr} {cs : List Value} {x y : List Value} {u v u0 : Value} {C : Array Value} {Z : World} {g : Value × Nat × Value} {d6 d7 d8 d11 : Bool} {W : World}
theorem JZ.copy (h : JZ T TT TB s i0 base bb k n ad cs x y u v u0 C Z g d6 false false d11 W) {V : World} {z : Value} (hb : Below W.heap.size W V) (hx : ∃ a' c', z = .slice a' n c') (ho : V.ownsRow W.heap.size T s z n cs) : JZ T TT TB s i0 base bb k n ad cs x y u v u0 C Z (z, g.2) true false false d11 V :=
  ⟨(hb.block _ (lt_at h.kb)).trans h.kb, row_below h.r6 hb, row_below h.r7 hb, h.ap, fun _ => ⟨hx, row_base ho h.kp.size⟩, (fun e => by cases e), h.fm, (fun e => by cases e), h.kp.below hb, Nat.le_trans h.bz hb.size⟩
theorem JZ.build (h : JZ T TT TB s i0 base bb k n ad cs x y u v u0 C Z g true d7 d8 d11 W) : JZ T TT TB s i0 base bb k n ad cs x y u v u0 C Z (g.1, W.heap.size, g.2.2) true true d8 d11 (W.alloc (.cells #[g.1] TT)) := by
  have hb := al1 W (.cells #[g.1] TT)
  have h7 := h.r7
  refine ⟨(hb.block _ (lt_at h.kb)).trans h.kb, row_below h.r6 hb, row_below h7 hb, h.ap, fun q => ⟨(h.cp q).1, row_below (h.cp q).2 hb⟩, fun _ e => ⟨new_at rfl, fun e2 => ?_⟩, h.fm, (fun e => by cases e), h.kp.below hb, Nat.le_trans h.bz hb.size⟩
  subst e
  have := (row_lt h7 _ e2).2
  exact absurd this (Nat.lt_irrefl _)
theorem row_ty {V V' : World} {t1 t2 : TypeId} {s1 s2 b1 b2 n1 n2 : Nat} {a1 a2 : Value} {x1 x2 : List Value} (ht : t1 ≠ t2) (h1 : V.ownsRow b1 t1 s1 a1 n1 x1) (h2 : V.ownsRow b2 t2 s2 a2 n2 x2) (hg : V.grownBy V' a2.ownBlock) : V'.ownsRow b1 t1 s1 a1 n1 x1 :=
  row_off h1 hg (fun b e e2 => by
    obtain ⟨_, c2, k2⟩ := rowBlk h2 b e
    exact row_type h1 k2 (fun e => ht e.symm) e2)
theorem bb_row {W : World} {bb base size n : Nat} {t TB : TypeId} {C : Array Value} {x : Value} {xs : List Value} (h : W.heap[bb]? = some (.cells C TB (0, 0))) (hr : W.ownsRow base t size x n xs) (ht : TB ≠ t) : x.ownBlock ≠ some bb := row_type hr h ht
theorem JZ.app (hI : KI T TT TTT TB s by_) (h : JZ T TT TB s i0 base bb k n ad cs x y u v u0 C Z g true true false false W) (hk : k < 400) (ty : TypeId) : ∃ z V, (Builtin.append_ #[TTT, TTT] ty #[v, .slice (some ⟨g.2.1, 0, none⟩) 1 1]).run Tryz.prog W = .ok z V ∧ JZ T TT TB s i0 base bb k n ad cs x y u v u0 C Z (g.1, g.2.1, z) true true true false V := by
  obtain ⟨ic, hic, hz0, hz1, hz2⟩ := hI.iS
  obtain ⟨⟨a', c', e1⟩, hcr⟩ := h.cp rfl
  have h6 := h.r6
  obtain ⟨hb1, hb2⟩ := h.bl rfl rfl
  have h7' : W.ownsRow base TT 1 v k y := h.r7
  have hnews : ∀ (j : Nat) (q : Value), [g.1][j]? = some q → W.cell? ((⟨g.2.1, 0, none⟩ : Addr).add j) = some q := by
    intro j q hj
    rw [add_pl, Nat.zero_add, cell_at hb1 j, ← hj]
    simp
  obtain ⟨z, V, hr, h2, h3, _, h5⟩ := run_append_own_at (P := Tryz.prog) W base TTT ty TT ic _ 1 24 hI.uS hic hz0 hz1 hz2 rfl (by decide) v k y h7' ⟨g.2.1, 0, none⟩ 1 1 [g.1] rfl hnews (by rw [e1]; simp [Value.oneCell']) (by unfold maxLen; omega) (by omega) h.bz
  have hapv : ∀ q, u.ownBlock = some q → v.ownBlock ≠ some q := h.ap
  refine ⟨z, V, hr, ⟨(h3.block _ (lt_at h.kb) (fun e => bb_row h.kb h7' hI.nS e.symm)).trans h.kb, row_off h6 h3 (fun q hq hq2 => hapv q hq2 hq), h2, fun q hq => ?_, fun _ => ⟨⟨a', c', e1⟩, row_ty hI.nT hcr h7' h3⟩, (fun _ e => by cases e), fun _ => ?_, (fun e => by cases e), h.kp.grown h3 (fun q e => .inr (.inr (.inl e))), Nat.le_trans h.bz h3.size⟩⟩
  · show z.ownBlock ≠ some q
    rcases h5 with h5 | h5
    · rw [h5]; exact hapv q hq
    · rw [h5]
      have := (row_lt h6 q hq).2
      simp only [ne_eq, Option.some.injEq]
      omega
  · obtain ⟨a2, c2, e2, _⟩ := rowForm h2
    exact ⟨a2, c2, e2⟩
theorem JZ.store (hI : KI T TT TTT TB s by_) (h : JZ T TT TB s i0 base bb k n ad cs x y u v u0 C Z g true true true d11 W) (hst : ∀ a n c, (Instr.storeAt TTT (.pointer (some ⟨bb, i0 + 1, none⟩)) (.slice a n c)).run Tryz.prog W = .ok () (W.setCell ⟨bb, i0 + 1, none⟩ (.slice a n c))) : ∃ V, (Instr.storeAt TTT (.pointer (some ⟨bb, i0 + 1, none⟩)) g.2.2).run Tryz.prog W = .ok () V ∧ JZ T TT TB s i0 base bb k n ad cs x y u v u0 C Z g true true true true V := by
  have h6 := h.r6
  obtain ⟨a2, c2, e2⟩ := h.fm rfl
  have h7' : W.ownsRow base TT 1 g.2.2 (k + 1) (y ++ [g.1]) := h.r7
  have hs := hst a2 (k + 1) c2
  rw [← e2] at hs
  have hcr := (h.cp rfl).2
  have hkb := heap_setCell_same _ _ (i0 + 1) _ _ g.2.2 h.kb
  rw [put2_set] at hkb
  exact ⟨_, hs, ⟨hkb, row_set h6 (bb_row h.kb h6 hI.nS) _, row_set h7' (bb_row h.kb h7' hI.nS) _, h.ap, fun _ => ⟨(h.cp rfl).1, row_set hcr (bb_row h.kb hcr hI.nB) _⟩, (fun _ e => by cases e), h.fm, (fun e => by cases e), h.kp.set, by simpa using h.bz⟩⟩
end
section
variable {α : Type} {c : α → List Value} {s : Nat} {T TT : TypeId} {base : Nat} {W V : World} {u : Value} {x : List Value} {L : List (List α)}
theorem Bx.low (hb : Bx x W V) (h : Kl c s T TT base W u x L) : base ≤ W.heap.size → Below base W V := fun hz => ⟨hb.os, hb.tape, hb.output, hb.size, fun k hk => hb.block k (by omega) (fun i z hz e => by
  have := (h.ltx hz e).1
  omega)⟩
theorem row_bxt {base' size n : Nat} {t : TypeId} {v : Value} {xs : List Value} (hr : W.ownsRow base' t size v n xs) (h : Kl c s T TT base W u x L) (hb : Bx x W V) (ht : t ≠ T) : V.ownsRow base' t size v n xs := row_at hr (fun g hg => by
  obtain ⟨_, cur, q⟩ := rowBlk hr g hg
  exact hb.block g (lt_at q) (h.px q ht))
theorem Gkn.bxt {β : Type} {mk : Nat → Nat → β} {c' : β → List Value} {s' : Nat} {T' : TypeId} {base' s0 : Nat} {x' O : List Value} (hr : Gkn mk c' s' T' base' s0 x' W O) (h : Kl c s T TT base W u x L) (hb : Bx x W V) (ht : T' ≠ T) : Gkn mk c' s' T' base' s0 x' V O := fun i z hz => by
  obtain ⟨n, h1, h2, h3⟩ := hr i z hz
  exact ⟨n, row_bxt h1 h hb ht, h2, h3⟩
theorem Gkn.carry {β : Type} {mk : Nat → Nat → β} {c' : β → List Value} {s' : Nat} {T' : TypeId} {base' s0 : Nat} {x' O : List Value} (hr : Gkn mk c' s' T' base' s0 x' W O) (hb : Below W.heap.size W V) : Gkn mk c' s' T' base' s0 x' V O := fun i z hz => by
  obtain ⟨n, h1, h2, h3⟩ := hr i z hz
  exact ⟨n, row_below h1 hb, h2, h3⟩
end
/-- What is there behind it. -/
def Kept {α : Type} (c : α → List Value) (s : Nat) (T TT TB : TypeId) (i0 base bb : Nat) (C : Array Value) (u v z : Value) (x : List Value) (w V : World) : Prop := ∃ u' v' x' y' L', Bb TB V bb (put2 C i0 u' v') ∧ Kk c s T TT base V u' v' x' y' L' ∧ Fk bb u v w V ∧ ∀ (i : Nat) (z' : Value), x'[i]? = some z' → z' = z ∨ ∃ j : Nat, x[j]? = some z'
end Go.Proofs.YtklnfbanfgdgcaaGreatDoor.Kel
namespace Go.Proofs.YtklnfbanfgdgcaaGreatDoor.Kel
open Go.RowKit Go.Shelf Go.Lib

abbrev tNotices := Int × Int × Int
def cNotices (a : tNotices) : List Value := [.int .i64 a.1, .int .i64 a.2.1, .int .i64 a.2.2]
def eNotices (a : tNotices) : Value := .agg #[.int .i64 a.1, .int .i64 a.2.1, .int .i64 a.2.2]
def mNotices (i k : Nat) : tNotices := (-1 - (i : Int), (k : Int), 0)
theorem hsNotices : ∀ a, (cNotices a).length = 3 := fun _ => rfl
theorem h1Notices : ∀ a, ∀ v ∈ cNotices a, v.oneCell' = true := by
  intro a v h
  simp only [cNotices, List.mem_cons, List.not_mem_nil, or_false] at h
  rcases h with rfl | rfl | rfl <;> rfl
theorem kiNotices : KI 185 46 68 78 3 24 := by
  obtain ⟨i, h1, h2, h3, h4⟩ := info_parts (t := 185) (z := some (.agg #[.int .i64 0, .int .i64 0, .int .i64 0])) (s := 3) (b := 24) (by kernel_rfl)
  exact ⟨⟨i, _, h1, h2, h3, h4, rfl⟩, Tryz.underlying46, info_parts (by kernel_rfl), Tryz.underlying68, by decide, by decide, by decide, by decide, by decide⟩
theorem fldNotices (W : World) (B : Nat) : (Instr.fieldAt 78 (.pointer (some ⟨B, 0, none⟩)) 6).run Tryz.prog W = .ok (.pointer (some ⟨B, 6, none⟩)) W := by go_simp
theorem flcNotices (W : World) (B : Nat) : (Instr.fieldAt 78 (.pointer (some ⟨B, 0, none⟩)) 7).run Tryz.prog W = .ok (.pointer (some ⟨B, 7, none⟩)) W := by go_simp
theorem lddNotices {V : World} {B j n c : Nat} {a : Option Addr} (h : V.cell? ⟨B, j, none⟩ = some (.slice a n c)) : (Instr.loadAt 68 (.pointer (some ⟨B, j, none⟩))).run Tryz.prog V = .ok (.slice a n c) V := by go_simp
theorem ldsNotices {V : World} {B j n c : Nat} {a : Option Addr} (h : V.cell? ⟨B, j, none⟩ = some (.slice a n c)) : (Instr.loadAt 46 (.pointer (some ⟨B, j, none⟩))).run Tryz.prog V = .ok (.slice a n c) V := by go_simp
theorem ixxNotices (g n cap k : Nat) (h : k < n) (w : World) : (Instr.indexAt 68 (.slice (some ⟨g, 0, none⟩) n cap) (.int .i64 (k : Int))).run Tryz.prog w = .ok (.pointer (some ⟨g, k, none⟩)) w := by
  have h1 : (k : Int) < (n : Int) := by omega
  go_simp
theorem ixNotices (gb off n cap k : Nat) (h : k < n) (W : World) : (Instr.indexAt 46 (.slice (some ⟨gb, off, none⟩) n cap) (.int .i64 (k : Int))).run Tryz.prog W = .ok (.pointer (some ⟨gb, off + k * 3, none⟩)) W := by
  have h1 : (k : Int) < (n : Int) := by omega
  have h2 : 0 ≤ (k : Int) := by omega
  go_simp
theorem lnNotices (t : TypeId) (bs : Array Bool) (a : Option Addr) (n c : Nat) (w : World) : (builtin .len #[46] t bs #[.slice a n c]).run Tryz.prog w = .ok (.value (.int .i64 (n : Int))) w := by
  show ((do pure (.value (← Builtin.len_ #[46] t #[.slice a n c]))) : Sem Next).run Tryz.prog w = _
  go_simp
theorem unnNotices (a : Bool) (w : World) : (Op.unary .not (.bool a)).run Tryz.prog w = .ok (.bool (!a)) w := by
  cases a <;> simp [go_sem]
theorem cesNotices {W : World} {b off : Nat} {l : List tNotices} (h : FA W b off (fc cNotices l)) {k : Nat} {a : tNotices} (hk : l[k]? = some a) : W.cell? ⟨b, off + k * 3, none⟩ = some (.int .i64 a.1) ∧ W.cell? ⟨b, off + k * 3 + 1, none⟩ = some (.int .i64 a.2.1) ∧ W.cell? ⟨b, off + k * 3 + 2, none⟩ = some (.int .i64 a.2.2) := by
  have key : ∀ j v, (cNotices a)[j]? = some v → W.cell? ⟨b, off + k * 3 + j, none⟩ = some v := fun j v hj => by
    rw [Nat.add_assoc]
    exact h _ _ ((fc_get hsNotices l k a hk j (List.getElem?_eq_some_iff.1 hj).1).trans hj)
  exact ⟨(by have := key 0 _ rfl; simpa using this), key 1 _ rfl, key 2 _ rfl⟩
theorem ldNotices {W : World} {b off : Nat} {l : List tNotices} (h : FA W b off (fc cNotices l)) {k : Nat} {a : tNotices} (hk : l[k]? = some a) : (Instr.loadAt 185 (.pointer (some ⟨b, off + k * 3, none⟩))).run Tryz.prog W = .ok (eNotices a) W := by
  obtain ⟨c0, c1, c2⟩ := cesNotices h hk
  obtain ⟨o, ho⟩ : ∃ o, off + k * 3 = o := ⟨_, rfl⟩
  rw [ho] at c0 c1 c2 ⊢
  unfold eNotices
  go_simp
theorem putNotices {W : World} {base g n cap : Nat} {l : List tNotices} (h : W.ownsRow base 185 3 (.slice (some ⟨g, 0, none⟩) n cap) n (fc cNotices l)) (hn : n = l.length) {j : Nat} (hj : j < n) (a : tNotices) :
    ∃ V, (Instr.storeAt 185 (.pointer (some ⟨g, 0 + j * 3, none⟩)) (eNotices a)).run Tryz.prog W = .ok () V ∧ V.ownsRow base 185 3 (.slice (some ⟨g, 0, none⟩) n cap) n (fc cNotices (l.set j a)) ∧ W.grownBy V (some g) := by
  have := row_put hsNotices h1Notices h hn hj a (eNotices a) rfl (by kernel_rfl)
  skip
  exact this
theorem newNotices (W : World) (cs : Array Value) (t : TypeId) : ∀ j u, cs.toList[j]? = some u → (W.alloc (.cells cs t)).cell? ((⟨W.heap.size, 0, none⟩ : Addr).add j) = some u := by
  intro j u h
  have hg : (W.alloc (.cells cs t)).heap[W.heap.size]? = some (.cells cs t) := new_at rfl
  rw [add_pl, Nat.zero_add, cell_at hg j, ← h]
  simp
set_option maxHeartbeats 4000000 in
set_option maxRecDepth 100000 in
theorem markNotices_any (i f n : Nat) (hi : i ≤ 400) (hf : f ≤ 3000000) (hn : n ≤ 3000000) (w : World) : Calls Tryz.prog 159 #[.int .i64 (i : Int), .int .i64 (f : Int), .int .i64 (n : Int)] w fun e w' => ∃ v, e = .returned v ∧ w'.ownsRow w.heap.size 185 3 v n (fc cNotices (mkL mNotices i f n)) ∧ Below w.heap.size w w' := by
  obtain ⟨ic, zc, hic, hz0, hz1, hz2, hz3⟩ := kiNotices.iT
  go_enter Tryz.func159, Tryz.ntmps159
  go_wp2
  go_loopw [7, 8] (fun v k wz => ∃ j : Nat, k = .int .i64 ((f + j : Nat) : Int) ∧ j ≤ n ∧ wz.ownsRow w.heap.size 185 3 v j (fc cNotices (mkL mNotices i f j)) ∧ Below w.heap.size w wz) (fun _ k _ => f + n - vnat k)
  case atStart => exact ⟨0, rfl, Nat.zero_le _, World.ownsRow_nil _ _ _ _, Below.refl _ _⟩
  case round =>
    obtain ⟨j, rfl, hj, hrow, hbw⟩ := hrel
    have hsw := hbw.size
    by_cases hjn : j < n
    · have hji : ((f + j : Nat) : Int) < (f : Int) + (n : Int) := by omega
      obtain ⟨q, hq⟩ : ∃ q, f + j = q := ⟨_, rfl⟩
      rw [hq] at hji ⊢
      have hq2 : q ≤ 6000000 := by omega
      have HF : fc cNotices (mkL mNotices i f (j + 1)) = fc cNotices (mkL mNotices i f j) ++ cNotices ((-1 - (i : Int), (q : Int), 0)) := by
        rw [mkL_succ, fc_append, hq]
        simp [fc, mNotices]
      have HQ : Hid (f + j = q) := hq
      have HF : Hid (fc cNotices (mkL mNotices i f (j + 1)) = fc cNotices (mkL mNotices i f j) ++ [.int .i64 (-1 - (i : Int)), .int .i64 (q : Int), .int .i64 0]) := HF
      clear hq
      go_wp2_with (at_builtin; refine wpList_append_own _ rfl _ _ 46 rfl w.heap.size 185 ic _ 3 24 Tryz.underlying46 hic hz0 hz1 hz2 hz3 (by decide) _ j (fc cNotices (mkL mNotices i f j)) rfl (hrow.alloc _) ⟨wr.heap.size, 0, none⟩ 1 1 [_, _, _] rfl rfl (newNotices _ #[_, _, _] _) (by simp [Value.oneCell']) (by unfold maxLen; omega) (by omega) (Nat.le_trans hsw (by simp)) ?_; intro v' w2 hown' hgrow _)
      go_roundw
      case rel =>
        refine ⟨j + 1, by have := HQ.out; simp; omega, by omega, ?_, (hbw.alloc hsw _).grown hgrow (Nat.le_trans hsw (by simp)) (fun q e => (row_lt hrow q e).1)⟩
        rw [HF.out]
        exact hown'
      case measure => have := HQ.out; simp [vnat]; omega
    · have hjj : j = n := by omega
      subst hjj
      have hji : ¬ ((f + j : Nat) : Int) < (f : Int) + (j : Int) := by omega
      go_wp2
      go_ret
      exact ⟨_, rfl, hrow, hbw⟩
theorem eqNotices {x y : Operand} (a : tNotices) (w : World) : binRun Tryz.prog .eql 185 x y (eNotices a) (eNotices a) w = .ok (.bool true) w := by
  unfold binRun eNotices
  go_simp
set_option maxHeartbeats 4000000 in
set_option maxRecDepth 100000 in
theorem sameNotices_any (ad ad' : Option Addr) (n cap cap' : Nat) (l : List tNotices) (hn : n = l.length) (w : World) (h : RdF w ad (fc cNotices l)) (h' : RdF w ad' (fc cNotices l)) (hl : n ≤ 4611686018427387904) : Calls Tryz.prog 145 #[.slice ad n cap, .slice ad' n cap'] w fun e w' => e = .returned (.bool true) ∧ Below w.heap.size w w' := by
  have hmx : Tryz.prog.follows .mixedOrders = true := by kernel_rfl
  have HN : Hid (n = l.length) := hn
  clear hn
  go_enter Tryz.func145, Tryz.ntmps145
  go_wp2
  go_loopw [5] (fun c wz => ∃ k : Nat, c = .int .i64 k ∧ k ≤ n ∧ Below w.heap.size w wz) (fun c _ => n - vnat c)
  case atStart => exact ⟨0, rfl, Nat.zero_le _, Below.refl _ _⟩
  case round =>
    obtain ⟨k, rfl, hk, hbw⟩ := hrel
    by_cases hkl : k < n
    · have hki : (k : Int) < (n : Int) := by omega
      have hne : fc cNotices l ≠ [] := fun e => by
        have := fc_len hsNotices l
        rw [e, ← HN.out] at this
        simp at this
        omega
      obtain ⟨b, off, rfl, hgl, hat⟩ := h hne
      obtain ⟨b', off', rfl, hgl', hat'⟩ := h' hne
      obtain ⟨a, hx⟩ : ∃ a, l[k]? = some a := ⟨_, List.getElem?_eq_getElem (by rw [← HN.out]; exact hkl)⟩
      go_wp2
      refine wp_region_any hmx ?_
      refine wpAny_pure (fun i__ => ([(.slice (some ⟨b, off, none⟩) n cap), (.int .i64 (k : Int)), (.pointer (some ⟨b, off + k * 3, none⟩)), (eNotices a), (.slice (some ⟨b', off', none⟩) n cap'), (.int .i64 (k : Int)), (.pointer (some ⟨b', off' + k * 3, none⟩)), (eNotices a), (.bool true), (.bool false)] : List Value).getD i__ undef) (fun W => Below w.heap.size w W) (by kernel_rfl) hbw.drew ?_ ?_
      · refine (stepsFrom_cons ?_ (stepsFrom_cons ?_ (stepsFrom_cons ?_ (stepsFrom_cons ?_ (stepsFrom_cons ?_ (stepsFrom_cons ?_ (stepsFrom_cons ?_ (stepsFrom_cons ?_ (stepsFrom_cons ?_ (stepsFrom_cons ?_ trivial))))))))))
        · exact step_move rfl trivial _ rfl (by kernel_rfl)
        · exact step_move rfl trivial _ rfl (by kernel_rfl)
        · exact step_indexAddr rfl trivial _ _ _ _ _ rfl rfl rfl (fun w hw => ixNotices b off _ _ k hkl w)
        · exact step_load rfl trivial _ _ _ rfl rfl (fun w hw => ldNotices (hat.of (hw.block _ hgl)) hx)
        · exact step_move rfl trivial _ rfl (by kernel_rfl)
        · exact step_move rfl trivial _ rfl (by kernel_rfl)
        · exact step_indexAddr rfl trivial _ _ _ _ _ rfl rfl rfl (fun w hw => ixNotices b' off' _ _ k hkl w)
        · exact step_load rfl trivial _ _ _ rfl rfl (fun w hw => ldNotices (hat'.of (hw.block _ hgl')) hx)
        · exact step_binOp rfl trivial _ _ _ _ _ _ _ rfl rfl rfl (fun w hw => eqNotices a w)
        · exact step_unOp rfl trivial _ _ _ _ rfl rfl (fun w hw => unnNotices true w)
      intro W hW
      first | refine hK _ _ ?_ | refine (‹∀ (a : Act) (w : World), Code.wp Tryz.prog _ _ a w → _›) _ _ ?_ | skip
      simp only [finL, List.getD_cons_zero, List.getD_cons_succ, Nat.zero_add, Nat.reduceAdd, List.setIfInBounds_toArray, List.set_cons_zero, List.set_cons_succ]
      go_wp2
      go_roundw
      case rel => exact ⟨k + 1, by simp, by omega, hW⟩
      case measure => simp [vnat]; omega
    · have hkk : k = n := by omega
      subst hkk
      have hki : ¬ ((k : Int) < (k : Int)) := by omega
      go_wp2
      go_ret
      exact ⟨rfl, hbw⟩
set_option maxHeartbeats 4000000 in
set_option maxRecDepth 100000 in
theorem stillNotices_any {base bb : Nat} {w : World} {u v : Value} {C : Array Value} {x y : List Value} {L : List (List tNotices)} (hB : Bb 78 w bb C) (hu : C[6]? = some u) (hv : C[7]? = some v) (h : Kl cNotices 3 185 46 base w u x L) (hc : Cl cNotices 46 base w v y L) : Calls Tryz.prog 56 #[.pointer (some ⟨bb, 0, none⟩)] w fun e w' => e = .returned (.bool true) ∧ Below w.heap.size w w' := by
  have hmx : Tryz.prog.follows .mixedOrders = true := by kernel_rfl
  obtain ⟨au, cu, eu, _⟩ := rowForm h.row
  have m6 : ∀ V, Below w.heap.size w V → V.cell? ⟨bb, 6, none⟩ = some (.slice au L.length cu) := fun V hV => by
    rw [cell_at ((hV.block _ (lt_at hB)).trans hB), hu, eu]
  obtain ⟨av, cv, ev, _⟩ := rowForm hc.row
  have m7 : ∀ V, Below w.heap.size w V → V.cell? ⟨bb, 7, none⟩ = some (.slice av L.length cv) := fun V hV => by
    rw [cell_at ((hV.block _ (lt_at hB)).trans hB), hv, ev]
  have hk4 := h.k
  obtain ⟨N, hN⟩ : ∃ N, N = L.length := ⟨_, rfl⟩
  rw [← hN] at m6 m7 eu ev hk4
  have HN : Hid (N = L.length) := hN
  clear hN hu hv
  go_enter Tryz.func56, Tryz.ntmps56
  go_wp2
  go_loopw [3] (fun i wz => ∃ k : Nat, i = .int .i64 (k : Int) ∧ k ≤ N ∧ Below w.heap.size w wz) (fun i _ => N - vnat i)
  case atStart => exact ⟨0, rfl, Nat.zero_le _, Below.refl _ _⟩
  case round =>
    obtain ⟨k, rfl, hk, hb⟩ := hrel
    have mm := m6 _ hb
    by_cases hkl : k < N
    · have hki : (k : Int) < (N : Int) := by omega
      obtain ⟨l, hl⟩ : ∃ l, L[k]? = some l := ⟨_, List.getElem?_eq_getElem (by rw [← HN.out]; exact hkl)⟩
      obtain ⟨gu, cu', z, e1, c1, hxz, hfl, hln⟩ := h.cell hl
      rw [eu] at e1
      simp only [Value.slice.injEq] at e1
      obtain ⟨rfl, -, rfl⟩ := e1
      obtain ⟨adx, cx, rfl, hrx, -⟩ := own_rd hfl
      obtain ⟨ady, cy, hyz, hry⟩ := hc.ks k l hl
      have hcr := hc.row
      rcases own_form hcr with ⟨_, e⟩ | ⟨gv, cv', e2, _⟩
      · have := HN.out
        omega
      rw [e2] at hcr
      rw [ev] at e2
      simp only [Value.slice.injEq] at e2
      obtain ⟨rfl, -, rfl⟩ := e2
      have c2 : w.cell? ⟨gv, k, none⟩ = some (.slice ady l.length cy) := (hcr.cellAt _ (by have := hc.row.1; have := HN.out; omega)).trans hyz
      have hgu := cell_lt c1
      have hgv := cell_lt c2
      clear hyz hxz hl
      obtain ⟨ll, hll⟩ : ∃ ll, ll = l.length := ⟨_, rfl⟩
      rw [← hll] at c1 c2 hln
      have HLL : Hid (ll = l.length) := hll
      clear hll
      go_wp2
      rename_i hK
      refine wp_region_any hmx ?_
      refine wpAny_pure (fun i__ => ([(.pointer (some ⟨bb, 0, none⟩)), (.pointer (some ⟨bb, 0, none⟩)), (.pointer (some ⟨bb, 6, none⟩)), (.slice (some ⟨gu, 0, none⟩) N cu), (.int .i64 (k : Int)), (.pointer (some ⟨gu, k, none⟩)), (.slice adx ll cx), (.pointer (some ⟨bb, 0, none⟩)), (.pointer (some ⟨bb, 0, none⟩)), (.pointer (some ⟨bb, 7, none⟩)), (.slice (some ⟨gv, 0, none⟩) N cv), (.int .i64 (k : Int)), (.pointer (some ⟨gv, k, none⟩)), (.slice ady ll cy), (.bool true), (.bool false)] : List Value).getD i__ undef) (fun V => Below w.heap.size w V) (by kernel_rfl) (hb.drew) ?_ ?_
      · refine (stepsFrom_cons ?_ (stepsFrom_cons ?_ (stepsFrom_cons ?_ (stepsFrom_cons ?_ (stepsFrom_cons ?_ (stepsFrom_cons ?_ (stepsFrom_cons ?_ (stepsFrom_cons ?_ (stepsFrom_cons ?_ (stepsFrom_cons ?_ (stepsFrom_cons ?_ (stepsFrom_cons ?_ (stepsFrom_cons ?_ (stepsFrom_cons ?_ (stepsFrom_cons ?_ (stepsFrom_cons ?_ trivial))))))))))))))))
        · exact step_move rfl trivial _ rfl (by kernel_rfl)
        · exact step_nilCheck rfl trivial _ _ _ rfl rfl rfl
        · exact step_fieldAddr rfl trivial _ _ _ _ rfl rfl (fun v hw => fldNotices v _)
        · exact step_load rfl trivial _ _ _ rfl rfl (fun v hw => lddNotices (m6 v hw))
        · exact step_move rfl trivial _ rfl (by kernel_rfl)
        · exact step_indexAddr rfl trivial _ _ _ _ _ rfl rfl rfl (fun v hw => ixxNotices gu _ _ k hkl v)
        · exact step_load rfl trivial _ _ _ rfl rfl (fun v hw => ldsNotices ((hw.cell (p := ⟨gu, k, none⟩) hgu).trans c1))
        · exact step_move rfl trivial _ rfl (by kernel_rfl)
        · exact step_nilCheck rfl trivial _ _ _ rfl rfl rfl
        · exact step_fieldAddr rfl trivial _ _ _ _ rfl rfl (fun v hw => flcNotices v _)
        · exact step_load rfl trivial _ _ _ rfl rfl (fun v hw => lddNotices (m7 v hw))
        · exact step_move rfl trivial _ rfl (by kernel_rfl)
        · exact step_indexAddr rfl trivial _ _ _ _ _ rfl rfl rfl (fun v hw => ixxNotices gv _ _ k hkl v)
        · exact step_load rfl trivial _ _ _ rfl rfl (fun v hw => ldsNotices ((hw.cell (p := ⟨gv, k, none⟩) hgv).trans c2))
        · exact step_call rfl trivial 145 _ _ [(.slice adx ll cx), (.slice ady ll cy)] rfl (by kernel_rfl) (enters_of Tryz.func145 (by kernel_rfl) rfl) (fun v hw => (sameNotices_any adx ady ll cx cy l HLL.out v (hrx.carry hw) (hry.carry hw) (by omega)).mono (by rintro e w' ⟨rfl, hb'⟩; exact ⟨rfl, bel2 hw hb'⟩))
        · exact step_unOp rfl trivial _ _ _ _ rfl rfl (fun v hw => unnNotices true v)
      intro W hW
      first | refine hK _ _ ?_ | refine (‹∀ (a : Act) (w : World), Code.wp Tryz.prog _ _ a w → _›) _ _ ?_ | skip
      simp only [finL, List.getD_cons_zero, List.getD_cons_succ, Nat.zero_add, Nat.reduceAdd, List.setIfInBounds_toArray, List.set_cons_zero, List.set_cons_succ]
      clear hK
      go_wp2
      go_roundw
      case rel => exact ⟨k + 1, by simp, by omega, hW⟩
      case measure => simp [vnat]; omega
    · have hki : ¬ (k : Int) < (N : Int) := by omega
      go_wp2
      go_ret
      exact ⟨rfl, hb⟩
set_option maxHeartbeats 4000000 in
set_option maxRecDepth 100000 in
theorem markedNotices_any {base k : Nat} {w : World} {uu : Value} {xs : List Value} (h : w.ownsRow base 46 1 uu k xs) (hm : Mkn mNotices cNotices w xs) (hk : k ≤ 400) : Calls Tryz.prog 92 #[uu] w fun e w' => e = .returned (.bool true) ∧ Below w.heap.size w w' := by
  have hmx : Tryz.prog.follows .mixedOrders = true := by kernel_rfl
  obtain ⟨au, cu, eu, _⟩ := rowForm h
  subst eu
  have hlen : xs.length = k := by have := h.1; omega
  go_enter Tryz.func92, Tryz.ntmps92
  go_wp2
  go_loopw [3] (fun i wz => ∃ j : Nat, i = .int .i64 (j : Int) ∧ j ≤ k ∧ Below w.heap.size w wz) (fun i _ => k - vnat i)
  case atStart => exact ⟨0, rfl, Nat.zero_le _, Below.refl _ _⟩
  case round =>
    obtain ⟨j, rfl, hj, hb⟩ := hrel
    by_cases hjk : j < k
    · have hji : (j : Int) < (k : Int) := by omega
      obtain ⟨z, hz⟩ : ∃ z, xs[j]? = some z := ⟨_, List.getElem?_eq_getElem (by omega)⟩
      obtain ⟨adx, n, c, rfl, hrx, hn⟩ := hm j z hz
      rcases own_form h with ⟨_, e⟩ | ⟨gu, cu', e1, _⟩
      · omega
      cases e1
      have c1 : w.cell? ⟨gu, j, none⟩ = some (.slice adx n c) := (h.cellAt _ (by omega)).trans hz
      have hgu := cell_lt c1
      go_wp2
      rename_i hK
      refine wp_region_any hmx ?_
      refine wpAny_tabG (G := Value) (fun g i__ => ([(.slice (some ⟨gu, 0, none⟩) k cu), (.int .i64 (j : Int)), (.pointer (some ⟨gu, j, none⟩)), (.slice adx n c), (.int .i64 (j : Int)), (.slice (some ⟨gu, 0, none⟩) k cu), (.int .i64 (j : Int)), (.pointer (some ⟨gu, j, none⟩)), (.slice adx n c), (.int .i64 (n : Int)), g, (.bool true), (.bool false)] : List Value).getD i__ undef) (fun g d V => Below w.heap.size w V ∧ (d 10 = true → V.ownsRow w.heap.size 185 3 g n (fc cNotices (mkL mNotices j 0 n)))) (by kernel_rfl) (undef) (⟨hb.drew, fun q => by cases q⟩) ?step32 ?fin32
      case step32 =>
        intro i o ho
        have hi : i < 13 := getElem?_lt ho
        match i, hi, ho with
        | 0, _, ho =>
          cases ho
          refine stepG_of (fun g d hdep => ?_)
          exact step_move rfl trivial _ rfl (by kernel_rfl)
        | 1, _, ho =>
          cases ho
          refine stepG_of (fun g d hdep => ?_)
          exact step_move rfl trivial _ rfl (by kernel_rfl)
        | 2, _, ho =>
          cases ho
          refine stepG_of (fun g d hdep => ?_)
          exact step_indexAddr rfl trivial _ _ _ _ _ rfl rfl rfl (fun v hw => ixxNotices gu _ _ j hjk v)
        | 3, _, ho =>
          cases ho
          refine stepG_of (fun g d hdep => ?_)
          exact step_load rfl trivial _ _ _ rfl rfl (fun v hw => ldsNotices ((hw.1.cell (p := ⟨gu, j, none⟩) hgu).trans c1))
        | 4, _, ho =>
          cases ho
          refine stepG_of (fun g d hdep => ?_)
          exact step_move rfl trivial _ rfl (by kernel_rfl)
        | 5, _, ho =>
          cases ho
          refine stepG_of (fun g d hdep => ?_)
          exact step_move rfl trivial _ rfl (by kernel_rfl)
        | 6, _, ho =>
          cases ho
          refine stepG_of (fun g d hdep => ?_)
          exact step_move rfl trivial _ rfl (by kernel_rfl)
        | 7, _, ho =>
          cases ho
          refine stepG_of (fun g d hdep => ?_)
          exact step_indexAddr rfl trivial _ _ _ _ _ rfl rfl rfl (fun v hw => ixxNotices gu _ _ j hjk v)
        | 8, _, ho =>
          cases ho
          refine stepG_of (fun g d hdep => ?_)
          exact step_load rfl trivial _ _ _ rfl rfl (fun v hw => ldsNotices ((hw.1.cell (p := ⟨gu, j, none⟩) hgu).trans c1))
        | 9, _, ho =>
          cases ho
          refine stepG_of (fun g d hdep => ?_)
          exact step_bi rfl trivial _ _ _ [(.slice adx n c)] rfl (by kernel_rfl) (fun bs v hw => lnNotices _ bs _ _ _ v)
        | 10, _, ho =>
          cases ho
          exact stepG_call rfl (fun _ => trivial) 159 _ _ (fun _ => [.int .i64 (j : Int), .int .i64 0, .int .i64 (n : Int)]) rfl (fun g => by kernel_rfl) (enters_of Tryz.func159 (by kernel_rfl) rfl) (fun g d V hJ hun hdep hcl => (markNotices_any j 0 n (by omega) (by omega) (by omega) V).mono (by rintro e V' ⟨v', rfl, hro, hb'⟩; refine ⟨v', rfl, (fun j hj => match j, hj with | 10, hj => (by rw [hj] at hun; cases hun)  | 0, _ => rfl | 1, _ => rfl | 2, _ => rfl | 3, _ => rfl | 4, _ => rfl | 5, _ => rfl | 6, _ => rfl | 7, _ => rfl | 8, _ => rfl | 9, _ => rfl | 11, _ => rfl | 12, _ => rfl | _ + 13, _ => rfl), ?_⟩; exact ⟨bel2 hJ.1 hb', fun _ => row_base hro hJ.1.size⟩))
        | 11, _, ho =>
          cases ho
          refine stepG_of (fun g d hdep => ?_)
          exact step_call rfl trivial 145 _ _ [(.slice adx n c), g] rfl (by kernel_rfl) (enters_of Tryz.func145 (by kernel_rfl) rfl) (fun v hw => by have h1 : d 10 = true := hdep 10 (by kernel_rfl); have ho := hw.2 h1; obtain ⟨a', c', e', hr', -⟩ := own_rd ho; have hq := sameNotices_any adx a' n c c' (mkL mNotices j 0 n) (mkL_len j 0 n).symm v (hrx.carry hw.1) hr' (by omega); show Calls Tryz.prog _ [Value.slice adx n c, g].toArray v _; rw [e'] at ho ⊢; exact hq.mono (by rintro e w' ⟨rfl, hb'⟩; exact ⟨rfl, bel2 hw.1 hb', fun _ => row_below ho hb'⟩))
        | 12, _, ho =>
          cases ho
          refine stepG_of (fun g d hdep => ?_)
          exact step_unOp rfl trivial _ _ _ _ rfl rfl (fun v hw => unnNotices true v)
      intro g d W hall hW
      first | refine hK _ _ ?_ | refine (‹∀ (a : Act) (w : World), Code.wp Tryz.prog _ _ a w → _›) _ _ ?_ | skip
      simp only [finL, List.getD_cons_zero, List.getD_cons_succ, Nat.zero_add, Nat.reduceAdd, List.setIfInBounds_toArray, List.set_cons_zero, List.set_cons_succ]
      have hWb := hW.1
      clear hK hall hW
      go_wp2
      go_roundw
      case rel => exact ⟨j + 1, by simp, by omega, hWb⟩
      case measure => simp [vnat]; omega
    · have hji : ¬ (j : Int) < (k : Int) := by omega
      go_wp2
      go_ret
      exact ⟨rfl, hb⟩
set_option maxHeartbeats 8000000 in
set_option maxRecDepth 100000 in
theorem putNotices_any {base bb : Nat} {w : World} {u : Value} {C : Array Value} {x : List Value} {L : List (List tNotices)} (hB : Bb 78 w bb C) (hu : C[6]? = some u) (h : Kl cNotices 3 185 46 base w u x L) : Calls Tryz.prog 68 #[.pointer (some ⟨bb, 0, none⟩)] w fun e w' => e = .returned (.tuple #[]) ∧ (∃ L', Kl cNotices 3 185 46 base w' u x L' ∧ upN mNotices L L' L.length) ∧ Bx x w w' := by
  have hmx : Tryz.prog.follows .mixedOrders = true := by kernel_rfl
  have hTT : (185 : TypeId) ≠ 46 := by decide
  obtain ⟨au, cu, eu, _⟩ := rowForm h.row
  subst eu
  have hk4 := h.k
  have hpB := h.px hB (by decide)
  have m6 : ∀ (V : World), Bx x w V → V.cell? ⟨bb, 6, none⟩ = some (.slice au L.length cu) := fun V hV => by
    rw [cell_at ((hV.block _ (lt_at hB) hpB).trans hB), hu]
  obtain ⟨N, hN⟩ : ∃ N, N = L.length := ⟨_, rfl⟩
  rw [← hN] at m6 h hk4 ⊢
  have HN : Hid (N = L.length) := hN
  clear hN hu
  go_enter Tryz.func68, Tryz.ntmps68
  go_wp2
  go_loopw [2] (fun i wz => ∃ (k : Nat) (L' : List (List tNotices)), i = .int .i64 (k : Int) ∧ k ≤ N ∧ Kl cNotices 3 185 46 base wz (.slice au N cu) x L' ∧ upN mNotices L L' k ∧ Bx x w wz) (fun i _ => N - vnat i)
  case atStart => exact ⟨0, L, rfl, Nat.zero_le _, h, upN.zero L, Bx.refl _ _⟩
  case round =>
    obtain ⟨k, L', rfl, hk, hK', hup, hbw⟩ := hrel
    have mm := m6 _ hbw
    by_cases hkl : k < N
    case neg =>
      have hki : ¬ (k : Int) < (N : Int) := by omega
      obtain rfl : k = N := by omega
      go_wp2
      go_end0
      exact ⟨rfl, ⟨L', hK', hup⟩, hbw⟩
    have hki : (k : Int) < (N : Int) := by omega
    obtain ⟨l, hl⟩ : ∃ l, L[k]? = some l := ⟨_, List.getElem?_eq_getElem (by rw [← HN.out]; exact hkl)⟩
    have hl' : L'[k]? = some l := by rw [hup.2 k l hl, if_neg (by omega)]
    obtain ⟨gu, cu', z, e1, c1, hxz, hfl, hln⟩ := hK'.cell hl'
    simp only [Value.slice.injEq] at e1
    obtain ⟨rfl, -, rfl⟩ := e1
    obtain ⟨adx, cx, rfl, hrx, -⟩ := own_rd hfl
    obtain ⟨ll, hll⟩ : ∃ ll, ll = l.length := ⟨_, rfl⟩
    rw [← hll] at c1 hln hfl hxz
    have HLL : Hid (ll = l.length) := hll
    have hmk := markNotices_any k 0 ll (by omega) (by omega) (by omega) wr
    have hgx : ∀ g, (Value.slice adx ll cx).ownBlock = some g → g < wr.heap.size ∧ base ≤ g := fun g e => (row_lt hfl g e).symm
    obtain ⟨sz, hsz⟩ : ∃ sz, wr.heap.size = sz := ⟨_, rfl⟩
    rw [hsz] at hgx hmk
    have HSZ : Hid (wr.heap.size = sz) := hsz
    clear hsz
    have HLK : Hid (L[k]? = some l) := hl
    have HLK' : Hid (L'[k]? = some l) := hl'
    have HXZ : Hid (x[k]? = some (.slice adx ll cx)) := hxz
    have HUP : Hid (upN mNotices L L' k) := hup
    clear hl hl' hxz hup hll
    have hmk : Calls Tryz.prog 159 #[.int .i64 (k : Int), .int .i64 0, .int .i64 (ll : Int)] wr (fun e w' => ∃ v, e = .returned v ∧ w'.ownsRow sz 185 3 v ll (fc cNotices (mkL mNotices k 0 ll)) ∧ Below sz wr w') := hmk
    go_wp2_with (go_at_call 159; (with_reducible refine hmk.mono ?_); rintro e va ⟨vm, rfl, hro, hba⟩; obtain ⟨am, cm, em, _⟩ := rowForm hro; subst em; have hba' : Below wr.heap.size wr va := (by rw [HSZ.out]; exact hba); have hKa := hK'.carry hba'; have hBa := hbw.below hba')
    go_loopw [4] (fun i wz => ∃ j : Nat, i = .int .i64 (j : Int) ∧ j ≤ ll ∧ Kl cNotices 3 185 46 base wz (.slice (some ⟨gu, 0, none⟩) N cu) x (L'.set k ((mkL mNotices k 0 ll).take j ++ l.drop j)) ∧ wz.ownsRow sz 185 3 (.slice am ll cm) ll (fc cNotices (mkL mNotices k 0 ll)) ∧ Bx x w wz) (fun i _ => ll - vnat i)
    case atStart => exact ⟨0, rfl, Nat.zero_le _, by rw [List.take_zero, List.nil_append, List.drop_zero, set_same HLK'.out]; exact hKa, hro, hBa⟩
    case round =>
      obtain ⟨j, rfl, hj, hKj, hrj, hBj⟩ := hrel
      have mj := m6 _ hBj
      by_cases hjl : j < ll
      case neg =>
        have hji : ¬ (j : Int) < (ll : Int) := by omega
        obtain rfl : j = ll := by omega
        have hfin : (mkL mNotices k 0 j).take j ++ l.drop j = mkL mNotices k 0 j := by rw [List.take_of_length_le (by rw [mkL_len]; omega), List.drop_of_length_le (by rw [← HLL.out]; omega), List.append_nil]
        rw [hfin] at hKj
        go_wp2
        go_roundw
        case rel => exact ⟨k + 1, _, by simp, by omega, hKj, by have := HUP.out.succ HLK.out; rw [← HLL.out] at this; exact this, hBj⟩
        case measure => simp [vnat]; omega
      have hji : (j : Int) < (ll : Int) := by omega
      have hy := mkL_get (mk := mNotices) k ll j hjl
      rcases own_form hrj with ⟨_, e⟩ | ⟨gm, cm', em, hgm, hgm2, _⟩
      · omega
      simp only [Value.slice.injEq] at em
      obtain ⟨rfl, -, rfl⟩ := em
      have hll : ((mkL mNotices k 0 ll).take j ++ l.drop j).length = ll := by rw [List.length_append, List.length_take, mkL_len, List.length_drop, ← HLL.out]; omega
      have hcl : (L'.set k ((mkL mNotices k 0 ll).take j ++ l.drop j))[k]? = some ((mkL mNotices k 0 ll).take j ++ l.drop j) := List.getElem?_set_self (List.getElem?_eq_some_iff.1 HLK'.out).1
      have hst : ((mkL mNotices k 0 ll).take j ++ l.drop j).set j (mNotices k j) = (mkL mNotices k 0 ll).take (j + 1) ++ l.drop (j + 1) := take_put hy (by rw [mkL_len]; exact HLL.out.symm)
      rcases own_form hfl with ⟨_, e⟩ | ⟨g, cg, ez, _⟩
      · omega
      simp only [Value.slice.injEq] at ez
      obtain ⟨rfl, -, rfl⟩ := ez
      obtain ⟨hglt, hgb⟩ := hgx g rfl
      have hgmg : gm ≠ g := by omega
      have HY : Hid ((mkL mNotices k 0 ll)[j]? = some (mNotices k j)) := hy
      clear hy
      have hspot : ∀ V, Kl cNotices 3 185 46 base V (.slice (some ⟨gu, 0, none⟩) N cu) x (L'.set k ((mkL mNotices k 0 ll).take j ++ l.drop j)) → V.cell? ⟨gu, k, none⟩ = some (.slice (some ⟨g, 0, none⟩) ll cx) := fun V hV => by
        obtain ⟨gu2, cu2, z2, q1, q2, q3, _⟩ := hV.cell hcl
        simp only [Value.slice.injEq, Option.some.injEq, Addr.mk.injEq] at q1
        obtain ⟨⟨rfl, -⟩, -⟩ := q1
        rw [HXZ.out] at q3
        obtain rfl := Option.some.inj q3
        exact q2
      go_wp2
      rename_i hK
      refine wp_region_any hmx ?_
      refine wpAny_last 13 (fun i__ => ([(.pointer (some ⟨bb, 0, none⟩)), (.pointer (some ⟨bb, 0, none⟩)), (.pointer (some ⟨bb, 6, none⟩)), (.slice (some ⟨gu, 0, none⟩) N cu), (.int .i64 (k : Int)), (.pointer (some ⟨gu, k, none⟩)), (.slice (some ⟨g, 0, none⟩) ll cx), (.int .i64 (j : Int)), (.slice (some ⟨gm, 0, none⟩) ll cm), (.int .i64 (j : Int)), (.pointer (some ⟨gm, 0 + j * 3, none⟩)), (eNotices (mNotices k j)), (.pointer (some ⟨g, 0 + j * 3, none⟩)), undef] : List Value).getD i__ undef) (fun V => Kl cNotices 3 185 46 base V (.slice (some ⟨gu, 0, none⟩) N cu) x (L'.set k ((mkL mNotices k 0 ll).take j ++ l.drop j)) ∧ V.ownsRow sz 185 3 (.slice (some ⟨gm, 0, none⟩) ll cm) ll (fc cNotices (mkL mNotices k 0 ll)) ∧ Bx x w V) (fun V => Kl cNotices 3 185 46 base V (.slice (some ⟨gu, 0, none⟩) N cu) x (L'.set k ((mkL mNotices k 0 ll).take (j + 1) ++ l.drop (j + 1))) ∧ V.ownsRow sz 185 3 (.slice (some ⟨gm, 0, none⟩) ll cm) ll (fc cNotices (mkL mNotices k 0 ll)) ∧ Bx x w V) rfl (by kernel_rfl) (by kernel_rfl) (⟨hKj.carry (Below.refl _ _).drew, row_below hrj (Below.refl _ _).drew, hBj.below (Below.refl _ _).drew⟩) ?_ ?_  ?_
      · refine (stepsFrom_cons ?_ (stepsFrom_cons ?_ (stepsFrom_cons ?_ (stepsFrom_cons ?_ (stepsFrom_cons ?_ (stepsFrom_cons ?_ (stepsFrom_cons ?_ (stepsFrom_cons ?_ (stepsFrom_cons ?_ (stepsFrom_cons ?_ (stepsFrom_cons ?_ (stepsFrom_cons ?_ (stepsFrom_cons ?_ trivial)))))))))))))
        · exact step_move rfl trivial _ rfl (by kernel_rfl)
        · exact step_nilCheck rfl trivial _ _ _ rfl rfl rfl
        · exact step_fieldAddr rfl trivial _ _ _ _ rfl rfl (fun v hw => fldNotices v _)
        · exact step_load rfl trivial _ _ _ rfl rfl (fun v hw => lddNotices (m6 _ hw.2.2))
        · exact step_move rfl trivial _ rfl (by kernel_rfl)
        · exact step_indexAddr rfl trivial _ _ _ _ _ rfl rfl rfl (fun v hw => ixxNotices gu _ _ k hkl v)
        · exact step_load rfl trivial _ _ _ rfl rfl (fun v hw => ldsNotices (hspot _ hw.1))
        · exact step_move rfl trivial _ rfl (by kernel_rfl)
        · exact step_move rfl trivial _ rfl (by kernel_rfl)
        · exact step_move rfl trivial _ rfl (by kernel_rfl)
        · exact step_indexAddr rfl trivial _ _ _ _ _ rfl rfl rfl (fun v hw => ixNotices gm 0 ll cm j hjl v)
        · exact step_load rfl trivial _ _ _ rfl rfl (fun v hw => ldNotices (FA.own hw.2.1) HY.out)
        · exact step_indexAddr rfl trivial _ _ _ _ _ rfl rfl rfl (fun v hw => ixNotices g 0 ll cx j hjl v)
      · intro o ho
        cases ho
        exact step_store rfl trivial rfl _ _ _ _ _ rfl rfl rfl (fun V hw => by obtain ⟨z2, q1, q2, _⟩ := hw.1.ks k _ hcl; rw [HXZ.out] at q1; obtain rfl := Option.some.inj q1; rw [hll] at q2; obtain ⟨V', r1, r2, r3⟩ := putNotices q2 hll.symm hjl (mNotices k j); refine ⟨V', r1, ?_, row_off hw.2.1 r3 (fun b e e2 => by obtain rfl := Option.some.inj e; simp only [Value.ownBlock, Option.some.injEq] at e2; exact hgmg e2), hw.2.2.grown r3 (fun q e => by obtain rfl := Option.some.inj e; exact .inl (Px.no HXZ.out rfl))⟩; have hk9 := hw.1.turn hTT hcl HXZ.out rfl (by rw [List.length_set, hll]; exact r2) (List.length_set ..) r3; rw [List.set_set, hst] at hk9; exact hk9)
      intro W hW
      first | refine hK _ _ ?_ | refine (‹∀ (a : Act) (w : World), Code.wp Tryz.prog _ _ a w → _›) _ _ ?_ | skip
      simp only [finL, List.getD_cons_zero, List.getD_cons_succ, Nat.zero_add, Nat.reduceAdd, List.setIfInBounds_toArray, List.set_cons_zero, List.set_cons_succ]
      clear hK
      go_wp2
      go_roundw
      case rel => exact ⟨j + 1, by simp, by omega, hW.1, hW.2.1, hW.2.2⟩
      case measure => simp [vnat]; omega
theorem bslNotices (W : World) (a : Option Addr) (n c : Nat) : (Instr.buildSlice 68 1 #[(0, .slice a n c)]).run Tryz.prog W = .ok (.slice (some ⟨W.heap.size, 0, none⟩) 1 1) (W.alloc (.cells #[.slice a n c] 46)) := by go_simp
set_option maxHeartbeats 8000000 in
set_option maxRecDepth 100000 in
theorem growNotices_any {base bb : Nat} {w : World} {u : Value} {C : Array Value} {x : List Value} {L : List (List tNotices)} (hB : Bb 78 w bb C) (hu : C[6]? = some u) (h : Kl cNotices 3 185 46 base w u x L) (hm : Mkd mNotices L) (hbz : base ≤ w.heap.size) : Calls Tryz.prog 80 #[.pointer (some ⟨bb, 0, none⟩)] w fun e w' => ∃ uo, e = .returned uo ∧ ∃ O, w'.ownsRow w.heap.size 46 1 uo L.length O ∧ Gkn mNotices cNotices 3 185 base w.heap.size x w' O ∧ Kl cNotices 3 185 46 base w' u x L ∧ Bx x w w' := by
  have hTT : (185 : TypeId) ≠ 46 := by decide
  obtain ⟨ic, zc, hic, hz0, hz1, hz2, hz3⟩ := kiNotices.iT
  obtain ⟨is, his, hs0, hs1, hs2⟩ := kiNotices.iS
  obtain ⟨au, cu, eu, _⟩ := rowForm h.row
  subst eu
  have hk4 := h.k
  have hxl : ∀ (i : Nat) (z' : Value) (b : Nat), x[i]? = some z' → z'.ownBlock = some b → b < w.heap.size := fun i z' b hz hb => (h.ltx hz hb).2
  have hul : ∀ b, (Value.slice au L.length cu).ownBlock = some b → b < w.heap.size := fun b hb => (row_lt h.row b hb).2
  have hpB := h.px hB (by decide)
  have m6 : ∀ (V : World), Bx x w V → V.cell? ⟨bb, 6, none⟩ = some (.slice au L.length cu) := fun V hV => by
    rw [cell_at ((hV.block _ (lt_at hB) hpB).trans hB), hu]
  obtain ⟨s0, hs⟩ : ∃ s0, w.heap.size = s0 := ⟨_, rfl⟩
  rw [hs] at hxl hul hbz ⊢
  have hs0w : s0 ≤ w.heap.size := by omega
  have hsw0 : w.heap.size ≤ s0 := by omega
  clear hs
  obtain ⟨NN, hN⟩ : ∃ N, N = L.length := ⟨_, rfl⟩
  rw [← hN] at m6 h hk4 hul ⊢
  have HN : Hid (NN = L.length) := hN
  clear hN hu
  go_enter Tryz.func80, Tryz.ntmps80
  go_wp2
  go_loopw [3, 4] (fun o i wz => ∃ (k : Nat) (O : List Value), i = .int .i64 (k : Int) ∧ k ≤ NN ∧ wz.ownsRow s0 46 1 o k O ∧ Gkn mNotices cNotices 3 185 base s0 x wz O ∧ Kl cNotices 3 185 46 base wz (.slice au NN cu) x L ∧ Bx x w wz ∧ s0 ≤ wz.heap.size) (fun _ i _ => NN - vnat i)
  case atStart => exact ⟨0, [], rfl, Nat.zero_le _, World.ownsRow_nil _ _ _ _, fun i z hz => (by cases hz), h, Bx.refl _ _, hs0w⟩
  case round =>
    obtain ⟨k, O, rfl, hk, hro, hgk, hK', hbw, hsw⟩ := hrel
    obtain ⟨ao, co, eo, _⟩ := rowForm hro
    subst eo
    have mm := m6 _ hbw
    have hOl : O.length = k := by have := hro.1; omega
    by_cases hkl : k < NN
    case neg =>
      have hki : ¬ (k : Int) < (NN : Int) := by omega
      obtain rfl : k = NN := by omega
      go_wp2
      go_ret
      exact ⟨_, rfl, O, hro, hgk, hK', hbw⟩
    have hki : (k : Int) < (NN : Int) := by omega
    obtain ⟨l, hl⟩ : ∃ l, L[k]? = some l := ⟨_, List.getElem?_eq_getElem (by rw [← HN.out]; exact hkl)⟩
    obtain ⟨gu, cu', z, e1, c1, hxz, hfl, hln⟩ := hK'.cell hl
    simp only [Value.slice.injEq] at e1
    obtain ⟨rfl, -, rfl⟩ := e1
    have hml := hm k l hl
    obtain ⟨N, hN⟩ : ∃ N, l.length = N := ⟨_, rfl⟩
    rw [hN] at hml hln hfl
    rw [hml] at hl hfl
    obtain ⟨adx, cx, rfl, -, -⟩ := own_rd hfl
    have hrel0 : (∃ g cap, Value.slice adx N cx = .slice (some ⟨g, 0, none⟩) N cap ∧ Value.slice adx N cx = .slice (some ⟨g, 0, none⟩) N cap) ∨ Value.slice adx N cx = .slice none 0 0 ∨ wr.ownsRow wr.heap.size 185 3 (.slice adx N cx) N (fc cNotices (mkL mNotices k 0 N)) := by
      rcases own_form hfl with ⟨q, _⟩ | ⟨g, cap, q, _⟩
      · exact .inr (.inl q)
      · exact .inl ⟨g, cap, q, q⟩
    have hGs : Gs mNotices cNotices 3 185 46 base s0 wr.heap.size N k (.slice (some ⟨gu, 0, none⟩) NN cu) (.slice adx N cx) (.slice ao k co) x O L w wr (.slice adx N cx) N := ⟨hfl, hrel0, hK', hgk, hro, hbw, Nat.le_refl _, Nat.le_refl _, hsw0⟩
    have hGc : Gc mNotices base s0 wr.heap.size N k (.slice (some ⟨gu, 0, none⟩) NN cu) (.slice adx N cx) (.slice ao k co) x O L := ⟨hl, hxz, hbz, hsw, hxl, hul, fun i z' b hz hb => (by
      obtain ⟨n, q1, _⟩ := hgk i z' hz
      exact (row_lt q1 b hb).2), fun b hb => (row_lt hro b hb).2, hOl⟩
    obtain ⟨sz, hsz⟩ : ∃ sz, wr.heap.size = sz := ⟨_, rfl⟩
    rw [hsz] at hGs hGc
    have hsz2 : s0 ≤ sz := by omega
    clear hrel0 hfl hgk hro hl hml hm hsz hK' hbw hsw hxz
    go_wp2
    clear mm c1
    go_loopw [5, 6] (fun a i wz => ∃ n : Nat, i = .int .i64 (n : Int) ∧ n ≤ 16 ∧ Gs mNotices cNotices 3 185 46 base s0 sz N k (.slice (some ⟨gu, 0, none⟩) NN cu) (.slice adx N cx) (.slice ao k co) x O L w wz a (N + n)) (fun _ i _ => 16 - vnat i)
    case atStart => exact ⟨0, rfl, by omega, hGs⟩
    case round =>
      clear hGs
      obtain ⟨n, rfl, hn, hG⟩ := hrel
      obtain ⟨aa, ca, ea, _⟩ := rowForm hG.row
      subst ea
      have hbz2 : base ≤ wr.heap.size := by have := hG.sz; omega
      by_cases hn16 : n < 16
      · have hni : (n : Int) < 16 := by omega
        obtain ⟨M, hM⟩ : ∃ M, N + n = M := ⟨_, rfl⟩
        have HM : Hid (N + n = M) := hM
        rw [hM] at hG ⊢
        have hM2 : M ≤ 1000016 := by omega
        clear hM
        have hmk : Calls Tryz.prog 159 #[.int .i64 (k : Int), .int .i64 (M : Int), .int .i64 1] wr (fun e w' => ∃ v, e = .returned v ∧ w'.ownsRow wr.heap.size 185 3 v 1 (fc cNotices (mkL mNotices k M 1)) ∧ Below wr.heap.size wr w') := markNotices_any k M 1 (by omega) (by omega) (by omega) wr
        go_wp2_with (first | (go_at_call 159; (with_reducible refine hmk.mono ?_); rintro e va ⟨vm, rfl, hrm, hba⟩; obtain ⟨gm, cm, em⟩ := rowSucc (n := 0) hrm; subst em; have hGa := hG.carry hba; have hsa := hba.size) | (at_builtin; refine wpList_append_two _ rfl _ _ 46 rfl base 185 ic _ 3 24 Tryz.underlying46 hic hz0 hz1 hz2 hz3 (by decide) _ M (fc cNotices (mkL mNotices k 0 M)) rfl hGa.row ⟨gm, 0, none⟩ 1 cm (fc cNotices (mkL mNotices k M 1)) rfl (by rw [fc_len hsNotices, mkL_len]) (FA.own hrm).src (fc_one h1Notices _) (by omega) (by unfold maxLen; omega) (by omega) (by omega) ?_; intro v' w2 hown' htwo; have hG2 := hGa.app hsNotices hTT hGc hown' htwo))
        go_roundw
        case rel => exact ⟨n + 1, by simp, by omega, by have := HM.out; rw [show N + (n + 1) = M + 1 by omega]; exact hG2⟩
        case measure => simp [vnat]; omega
      · obtain rfl : n = 16 := by omega
        have hni : ¬ ((16 : Nat) : Int) < 16 := by omega
        obtain ⟨M, hM⟩ : ∃ M, N + 16 = M := ⟨_, rfl⟩
        rw [hM] at hG ⊢
        have hM2 : M ≤ 1000016 := by omega
        clear hM
        have hbs := bslNotices
        have hmk : Calls Tryz.prog 159 #[.int .i64 (k : Int), .int .i64 (M : Int), .int .i64 80] wr (fun e w' => ∃ v, e = .returned v ∧ w'.ownsRow wr.heap.size 185 3 v 80 (fc cNotices (mkL mNotices k M 80)) ∧ Below wr.heap.size wr w') := markNotices_any k M 80 (by omega) (by omega) (by omega) wr
        go_wp2_with (first | (go_at_call 159; (with_reducible refine hmk.mono ?_); rintro e va ⟨vm, rfl, hrm, hba⟩; obtain ⟨gm, cm, em⟩ := rowSucc (n := 79) hrm; subst em; have hGa := hG.carry hba; have hsa := hba.size) | (at_builtin; refine wpList_append_two _ rfl _ _ 46 rfl base 185 ic _ 3 24 Tryz.underlying46 hic hz0 hz1 hz2 hz3 (by decide) _ M (fc cNotices (mkL mNotices k 0 M)) rfl hGa.row ⟨gm, 0, none⟩ 80 cm (fc cNotices (mkL mNotices k M 80)) rfl (by rw [fc_len hsNotices, mkL_len]) (FA.own hrm).src (fc_one h1Notices _) (by omega) (by unfold maxLen; omega) (by omega) (by omega) ?_; intro v' w2 hown' htwo; obtain ⟨a', c', e', _⟩ := rowForm hown'; subst e'; have hG2 := hGa.app hsNotices hTT hGc hown' htwo; have hz2' : sz ≤ w2.heap.size := hG2.sz; have hG3 := hG2.carry (al1 w2 (.cells #[.slice a' (M + 80) c'] 46))) | (at_builtin; refine wpList_append_own _ rfl _ _ 68 rfl s0 46 is _ 1 24 Tryz.underlying68 his hs0 hs1 hs2 rfl (by decide) _ k O rfl hG3.ro ⟨w2.heap.size, 0, none⟩ 1 1 [_] rfl rfl (newNotices _ #[_] _) (by simp [Value.oneCell']) (by unfold maxLen; omega) (by omega) (by simp; omega) ?_; intro v2 w4 hown4 hgrow4 _))
        go_roundw
        case rel =>
          have hty : ∀ {z' : Value} {n : Nat} {ys : List Value} {b : Nat}, (w2.alloc (.cells #[.slice a' (M + 80) c'] 46)).ownsRow base 185 3 z' n ys → (Value.slice ao k co).ownBlock = some b → z'.ownBlock ≠ some b := fun hr e e2 => by
            obtain ⟨_, c5, q5⟩ := rowBlk hr _ e2
            exact row_type hG3.ro q5 (by decide) e
          refine ⟨k + 1, O ++ [.slice a' (M + 80) c'], by simp, by omega, hown4, ?_, hG3.kn.off hgrow4 (fun b e e2 => ?_) (fun b e i z' hz e2 => ?_), hG3.bl.grown hgrow4 (fun q e => .inr (by have := (row_lt hG3.ro q e).1; omega)), by have := hgrow4.size; simp at this; omega⟩
          · intro i z' hz
            rcases Nat.lt_or_ge i k with q | q
            · rw [List.getElem?_append_left (by omega)] at hz
              refine (hG3.gk.off hgrow4 (fun b e i2 z2 hz2 => ?_)) i z' hz
              obtain ⟨n2, r2, _⟩ := hG3.gk i2 z2 hz2
              exact hty r2 e
            · have hik : i = k := by
                have := (List.getElem?_eq_some_iff.1 hz).1
                simp at this
                omega
              subst hik
              rw [List.getElem?_append_right (by omega), hOl, Nat.sub_self] at hz
              cases hz
              refine ⟨M + 80, row_off hG3.row hgrow4 (fun b e => hty hG3.row e), by omega, ?_⟩
              rcases hG3.rel with ⟨g, cap, q1, q2⟩ | q2 | q2
              · exact .inl ⟨_, hGc.xk, by rw [q1, q2]; rfl⟩
              · exact .inr (fun b e => by rw [q2] at e; cases e)
              · exact .inr (fun b e => by have := (row_lt q2 b e).1; omega)
          · have := hul b e2
            have := (row_lt hG3.ro b e).1
            omega
          · have := hxl i z' b hz e2
            have := (row_lt hG3.ro b e).1
            omega
        case measure => simp [vnat]; omega
theorem stcNotices {W : World} {bb n c : Nat} {a : Option Addr} {C : Array Value} {v0 : Value} (h : W.heap[bb]? = some (.cells C 78 (0, 0))) (hi : C[7]? = some v0) : (Instr.storeAt 68 (.pointer (some ⟨bb, 7, none⟩)) (.slice a n c)).run Tryz.prog W = .ok () (W.setCell ⟨bb, 7, none⟩ (.slice a n c)) := by
  have c0 : W.cell? ⟨bb, 7, none⟩ = some v0 := (cell_at h 7).trans hi
  have z0 := thaw_at h 7
  go_simp
set_option maxHeartbeats 4000000 in
set_option maxRecDepth 100000 in
theorem keepNotices_any {w : World} {base bb : Nat} {u v z : Value} {C : Array Value} {x y : List Value} {L : List (List tNotices)} {l : List tNotices} (hB : Bb 78 w bb C) (hu : C[6]? = some u) (hv : C[7]? = some v) (h : Kk cNotices 3 185 46 base w u v x y L) (hbz : base ≤ w.heap.size) (hz : w.ownsRow base 185 3 z l.length (fc cNotices l)) (hl : l.length ≤ 1000000) (hn : ∀ (i g : Nat) (z' : Value), x[i]? = some z' → z.ownBlock = some g → z'.ownBlock ≠ some g) : Calls Tryz.prog 47 #[.pointer (some ⟨bb, 0, none⟩), z] w fun e w' => e = .returned (.tuple #[]) ∧ Kept cNotices 3 185 46 78 6 base bb C u v z x w w' := by
  have hmx : Tryz.prog.follows .mixedOrders = true := by kernel_rfl
  obtain ⟨ic, hic, hz0, hz1, hz2⟩ := kiNotices.iS
  have h6 := h.kl.row
  have h7 := h.cr
  have hap := h.uv
  have hsz : 7 < C.size := (Array.getElem?_eq_some_iff.1 hv).1
  obtain ⟨k, hk⟩ : ∃ k, k = L.length := ⟨_, rfl⟩
  rw [← hk] at h6 h7
  have HK : Hid (k = L.length) := hk
  have hk400 : k ≤ 400 := by rw [hk]; exact h.kl.k
  clear hk
  obtain ⟨a6, c6, rfl, _⟩ := rowForm h6
  obtain ⟨a7, c7, rfl, _⟩ := rowForm h7
  obtain ⟨n, hnn⟩ : ∃ n, n = l.length := ⟨_, rfl⟩
  have HN : Hid (n = l.length) := hnn
  have hzz := hz
  rw [← hnn] at hzz
  clear hnn
  obtain ⟨ad, c, rfl, hrd0, hc⟩ := own_rd hzz
  have HU : Hid (C[6]? = some (.slice a6 k c6)) := hu
  have HV : Hid (C[7]? = some (.slice a7 k c7)) := hv
  have m6 : w.cell? ⟨bb, 6, none⟩ = some (.slice a6 k c6) := (cell_at hB 6).trans hu
  have HKK : Hid (Kk cNotices 3 185 46 base w (.slice a6 k c6) (.slice a7 k c7) x y L) := h
  have HNO : Hid (∀ (i g : Nat) (z' : Value), x[i]? = some z' → (Value.slice ad n c).ownBlock = some g → z'.ownBlock ≠ some g) := hn
  have HZ : Hid (w.ownsRow base 185 3 (.slice ad n c) n (fc cNotices l)) := hzz
  clear hu hv hn h hz hzz
  by_cases h4 : k < 400
  · have hki : (k : Int) < 400 := by omega
    have z6 := thaw_at hB 6
    have HKB : Hid (Bb 78 w bb C) := hB
    have hlb := lt_at hB
    obtain ⟨XX, hXX⟩ : ∃ XX, x ++ [Value.slice ad n c] = XX := ⟨_, rfl⟩
    have HXX : Hid (x ++ [Value.slice ad n c] = XX) := hXX
    have HRD : Hid (RdF w ad (fc cNotices l)) := hrd0
    clear hXX hB hrd0
    go_enter Tryz.func47, Tryz.ntmps47
    go_wp2_with (at_builtin; refine wpList_append_own_at _ rfl _ _ 68 rfl base 46 ic _ 1 24 Tryz.underlying68 hic hz0 hz1 hz2 rfl (by decide) _ _ _ rfl (h6.alloc _) ⟨w.heap.size, 0, none⟩ 1 1 [_] rfl rfl (newNotices _ #[_] _) (by simp [Value.oneCell']) (by unfold maxLen; omega) (by omega) (by simp; omega) ?_; intro v' w2 hown' hgrow _ hob; obtain ⟨g', cap', rfl⟩ := rowSucc hown'; have hkb2 : Bb 78 w2 bb C := (hgrow.block _ (by simp; omega) (fun e => bb_row HKB.out h6 (by decide) e.symm)).trans (old_at HKB.out); have m62 : w2.cell? ⟨bb, 6, none⟩ = some (.slice a6 k c6) := (cell_at hkb2 6).trans HU.out; have z62 := thaw_at hkb2 6)
    have hkb3 := heap_setCell_same _ _ 6 _ _ (.slice (some ⟨g', 0, none⟩) (k + 1) cap') hkb2
    rw [put2_v HV.out] at hkb3
    have hal1 := al1 w (.cells #[.slice ad n c] 46)
    have h72 : w2.ownsRow base 46 1 (.slice a7 k c7) k y := row_off (h7.alloc _) hgrow (fun b hb hb2 => hap b hb hb2)
    have hkp : Fk bb (.slice a6 k c6) (.slice a7 k c7) w (w2.setCell ⟨bb, 6, none⟩ (.slice (some ⟨g', 0, none⟩) (k + 1) cap')) := (((Fk.refl _ _ _ _).below hal1).grown hgrow (fun q e => .inr (.inl e))).set
    have habide : ∀ (q : Nat) (cur : Array Value), w.heap[q]? = some (.cells cur 185 (0, 0)) → (w2.setCell ⟨bb, 6, none⟩ (.slice (some ⟨g', 0, none⟩) (k + 1) cap')).heap[q]? = w.heap[q]? := fun q cur hq => hkp.block q (lt_at hq) (fun e => by
      subst e
      have := HKB.out.symm.trans hq
      simp only [Option.some.injEq, Obj.cells.injEq] at this
      exact absurd this.2.1 (by decide)) (row_type h6 hq (by decide)) (row_type h7 hq (by decide))
    have hrd : RdF (w2.setCell ⟨bb, 6, none⟩ (.slice (some ⟨g', 0, none⟩) (k + 1) cap')) ad (fc cNotices l) := by
      intro hne
      obtain ⟨b, off, e, hb, hat⟩ := HRD.out hne
      have hbk : (Value.slice ad n c).ownBlock = some b := by
        rcases own_form HZ.out with ⟨q, _⟩ | ⟨g, cap, q, _⟩
        · simp only [Value.slice.injEq] at q
          rw [q.1] at e
          cases e
        · simp only [Value.slice.injEq] at q
          rw [q.1] at e ⊢
          simp only [Option.some.injEq, Addr.mk.injEq] at e
          rw [← e.1]
          rfl
      obtain ⟨_, cur, ho⟩ := rowBlk HZ.out b hbk
      exact ⟨b, off, e, Nat.lt_of_lt_of_le hb hkp.size, hat.of (habide b cur ho)⟩
    have hlb7 : ∀ q, (Value.slice a7 k c7).ownBlock = some q → q < w.heap.size := fun q hq => (row_lt h7 q hq).2
    have hownX := hown'
    rw [HXX.out] at hownX
    have hj0 : JZ 185 46 78 3 6 base bb k n ad (fc cNotices l) XX y (.slice (some ⟨g', 0, none⟩) (k + 1) cap') (.slice a7 k c7) (.slice a6 k c6) C w (undef, 0, undef) false false false false (w2.setCell ⟨bb, 6, none⟩ (.slice (some ⟨g', 0, none⟩) (k + 1) cap')) := ⟨hkb3, row_set hownX (bb_row hkb2 hownX (by decide)) _, row_set h72 (bb_row hkb2 h72 (by decide)) _, fun q hq hq2 => (by
      rcases hob with e | e
      · exact hap q (e.symm.trans hq) hq2
      · have h8 := hlb7 q hq2
        rw [e] at hq
        simp at hq
        omega), (fun e => by cases e), (fun e => by cases e), (fun e => by cases e), fun _ => hrd, hkp, by have := hkp.size; omega⟩
    have HL : Hid (l.length ≤ 1000000) := hl
    have HC : Hid (ad = none → c = 0) := hc
    clear hkb2 hkb3 h72 hrd hown' hgrow hob m6 z6 m62 z62 h6 h7 hap hkp habide hl hc
    refine wp_region_any hmx ?_
    refine wpAny_tabG (G := (Value × Nat × Value)) (fun g i__ => ([(.pointer (some ⟨bb, 0, none⟩)), (.pointer (some ⟨bb, 0, none⟩)), (.pointer (some ⟨bb, 0, none⟩)), (.pointer (some ⟨bb, 7, none⟩)), (.slice a7 k c7), (.slice ad n c), g.1, (.slice (some ⟨g.2.1, 0, none⟩) 1 1), g.2.2, (.pointer (some ⟨bb, 0, none⟩)), (.pointer (some ⟨bb, 7, none⟩)), undef] : List Value).getD i__ undef) (fun g d W => JZ 185 46 78 3 6 base bb k n ad (fc cNotices l) XX y (.slice (some ⟨g', 0, none⟩) (k + 1) cap') (.slice a7 k c7) (.slice a6 k c6) C w g (d 6) (d 7) (d 8) (d 11) W) (by kernel_rfl) ((undef, 0, undef)) (show JZ 185 46 78 3 6 base bb k n ad (fc cNotices l) XX y (.slice (some ⟨g', 0, none⟩) (k + 1) cap') (.slice a7 k c7) (.slice a6 k c6) C w (undef, 0, undef) false false false false _ from ⟨hj0.kb, hj0.r6, hj0.r7, hj0.ap, hj0.cp, hj0.bl, hj0.fm, hj0.rd, hj0.kp.below (Below.refl _ _).drew, hj0.bz⟩) ?step33 ?fin33
    case step33 =>
      intro i o ho
      have hi : i < 12 := getElem?_lt ho
      match i, hi, ho with
      | 0, _, ho =>
        cases ho
        refine stepG_of (fun g d hdep => ?_)
        exact step_move rfl trivial _ rfl (by kernel_rfl)
      | 1, _, ho =>
        cases ho
        refine stepG_of (fun g d hdep => ?_)
        exact step_move rfl trivial _ rfl (by kernel_rfl)
      | 2, _, ho =>
        cases ho
        refine stepG_of (fun g d hdep => ?_)
        exact step_nilCheck rfl trivial _ _ _ rfl rfl rfl
      | 3, _, ho =>
        cases ho
        refine stepG_of (fun g d hdep => ?_)
        exact step_fieldAddr rfl trivial _ _ _ _ rfl rfl (fun w hw => flcNotices w _)
      | 4, _, ho =>
        cases ho
        exact stepG_ofC (fun g d hun hdep hcl => step_load rfl trivial _ _ _ rfl rfl (fun w hw => lddNotices (by have h11 : d 11 = false := (by cases h : d 11 with | false => rfl | true => exact absurd (hcl 11 _ rfl h 4 (by kernel_rfl)) (by rw [hun]; simp)); have := hw.kb; rw [h11] at this; exact (cell_at this 7).trans (put2_1 hsz _ _))))
      | 5, _, ho =>
        cases ho
        refine stepG_of (fun g d hdep => ?_)
        exact step_move rfl trivial _ rfl (by kernel_rfl)
      | 6, _, ho =>
        cases ho
        exact stepG_append rfl rfl _ _ _ (fun _ => .slice none 0 0) (fun _ => .slice ad n c) rfl (fun g => by kernel_rfl) (fun g => by kernel_rfl) (fun g d W hJ hun hdep hcl => by have h7 : d 7 = false := (by cases h : d 7 with | false => rfl | true => exact absurd (hcl 7 _ rfl h 6 (by kernel_rfl)) (by rw [hun]; simp)); have hJ' := hJ; rw [hun, h7] at hJ'; have hcp := cp_any kiNotices hsNotices h1Notices (cc := c) 46 (hJ'.rd rfl) HL.out HC.out; rw [← HN.out] at hcp; obtain ⟨v', W', hr, hv, hro, hb⟩ := hcp; refine ⟨(v', g.2), W', hr, (fun j hj => match j, hj with | 6, hj => (by rw [hj] at hun; cases hun)  | 0, _ => rfl | 1, _ => rfl | 2, _ => rfl | 3, _ => rfl | 4, _ => rfl | 5, _ => rfl | 7, _ => rfl | 8, _ => rfl | 9, _ => rfl | 10, _ => rfl | 11, _ => rfl | _ + 12, _ => rfl), ?_⟩; have h8 : d 8 = false := (by cases h : d 8 with | false => rfl | true => exact absurd (hcl 8 _ rfl h 6 (by kernel_rfl)) (by rw [hun]; simp)); show JZ 185 46 78 3 6 base bb k n ad (fc cNotices l) XX y _ _ _ C w _ true (d 7) (d 8) (d 11) W'; rw [h7, h8]; rw [h8] at hJ'; exact hJ'.copy hb hv hro)
      | 7, _, ho =>
        cases ho
        exact stepG_buildG rfl rfl _ _ (fun g => g.1) rfl (fun g => by kernel_rfl) (fun g d W hJ hun hdep hcl => by have h6 : d 6 = true := hdep 6 (by kernel_rfl); have hJ' := hJ; rw [h6] at hJ'; obtain ⟨⟨a', c', e1⟩, _⟩ := hJ'.cp rfl; refine ⟨(g.1, W.heap.size, g.2.2), W.alloc (.cells #[g.1] 46), (by rw [e1]; exact bslNotices _ _ _ _), (fun j hj => match j, hj with | 7, hj => (by rw [hj] at hun; cases hun)  | 0, _ => rfl | 1, _ => rfl | 2, _ => rfl | 3, _ => rfl | 4, _ => rfl | 5, _ => rfl | 6, _ => rfl | 8, _ => rfl | 9, _ => rfl | 10, _ => rfl | 11, _ => rfl | _ + 12, _ => rfl), ?_⟩; show JZ 185 46 78 3 6 base bb k n ad (fc cNotices l) XX y _ _ _ C w _ (d 6) true (d 8) (d 11) _; rw [h6]; exact hJ'.build)
      | 8, _, ho =>
        cases ho
        exact stepG_append rfl rfl _ _ _ (fun _ => .slice a7 k c7) (fun g => .slice (some ⟨g.2.1, 0, none⟩) 1 1) rfl (fun g => by kernel_rfl) (fun g => by kernel_rfl) (fun g d W hJ hun hdep hcl => by have h7 : d 7 = true := hdep 7 (by kernel_rfl); have h6 : d 6 = true := hdep 6 (by kernel_rfl); have h11 : d 11 = false := (by cases h : d 11 with | false => rfl | true => exact absurd (hcl 11 _ rfl h 8 (by kernel_rfl)) (by rw [hun]; simp)); have hJ' := hJ; rw [h6, h7, hun, h11] at hJ'; obtain ⟨x, V, hr, hA⟩ := hJ'.app kiNotices h4 68; refine ⟨(g.1, g.2.1, x), V, hr, (fun j hj => match j, hj with | 8, hj => (by rw [hj] at hun; cases hun)  | 0, _ => rfl | 1, _ => rfl | 2, _ => rfl | 3, _ => rfl | 4, _ => rfl | 5, _ => rfl | 6, _ => rfl | 7, _ => rfl | 9, _ => rfl | 10, _ => rfl | 11, _ => rfl | _ + 12, _ => rfl), ?_⟩; show JZ 185 46 78 3 6 base bb k n ad (fc cNotices l) XX y _ _ _ C w _ (d 6) (d 7) true (d 11) V; rw [h6, h7, h11]; exact hA)
      | 9, _, ho =>
        cases ho
        refine stepG_of (fun g d hdep => ?_)
        exact step_nilCheck rfl trivial _ _ _ rfl rfl rfl
      | 10, _, ho =>
        cases ho
        refine stepG_of (fun g d hdep => ?_)
        exact step_fieldAddr rfl trivial _ _ _ _ rfl rfl (fun w hw => flcNotices w _)
      | 11, _, ho =>
        cases ho
        refine stepG_of (fun g d hdep => ?_)
        exact step_store rfl trivial rfl _ _ _ _ _ rfl rfl rfl (fun W hw => by have h6 : d 6 = true := hdep 6 (by kernel_rfl); have h7 : d 7 = true := hdep 7 (by kernel_rfl); have h8 : d 8 = true := hdep 8 (by kernel_rfl); have hw' := hw; rw [h6, h7, h8] at hw'; obtain ⟨V, hr, hA⟩ := hw'.store kiNotices (fun a n c => stcNotices hw'.kb (put2_1 hsz _ _)); refine ⟨V, hr, ?_⟩; show JZ 185 46 78 3 6 base bb k n ad (fc cNotices l) XX y _ _ _ C w _ (d 6) (d 7) (d 8) true V; rw [h6, h7, h8]; exact hA)
    intro g d W hall hW
    first | refine hK _ _ ?_ | refine (‹∀ (a : Act) (w : World), Code.wp Tryz.prog _ _ a w → _›) _ _ ?_ | skip
    simp only [finL, List.getD_cons_zero, List.getD_cons_succ, Nat.zero_add, Nat.reduceAdd, List.setIfInBounds_toArray, List.set_cons_zero, List.set_cons_succ]
    rw [hall 6 (by decide), hall 7 (by decide), hall 8 (by decide), hall 11 (by decide)] at hW
    have HJ : Hid (JZ 185 46 78 3 6 base bb k n ad (fc cNotices l) XX y (.slice (some ⟨g', 0, none⟩) (k + 1) cap') (.slice a7 k c7) (.slice a6 k c6) C w g true true true true W) := hW
    clear hW hall hj0 hownX
    go_wp2
    go_end0
    have hW := HJ.out
    have h6 := HKK.out.kl.row
    have h7 := HKK.out.cr
    rw [← HK.out] at h6 h7
    have hab : ∀ (q : Nat) (cur : Array Value), w.heap[q]? = some (.cells cur 185 (0, 0)) → W.heap[q]? = w.heap[q]? := fun q cur hq => hW.kp.block q (lt_at hq) (fun e => by
      subst e
      have := HKB.out.symm.trans hq
      simp only [Option.some.injEq, Obj.cells.injEq] at this
      exact absurd this.2.1 (by decide)) (row_type h6 hq (by decide)) (row_type h7 hq (by decide))
    have e6 := hW.r6
    have e7 := hW.r7
    simp only [if_true] at e7
    rw [← HXX.out, HK.out] at e6
    rw [HK.out] at e7
    have hnz := HZ.out
    have hcz := (hW.cp rfl).2
    rw [HN.out] at hnz hcz e6
    refine ⟨rfl, _, g.2.2, x ++ [.slice ad l.length c], y ++ [g.1], L ++ [l], hW.kb, HKK.out.app (V := W) hab (row_at hnz (fun q hq => ?_)) (row_base hcz hbz) HL.out (by rw [← HK.out]; exact h4) (by rw [← HN.out]; exact HNO.out) (by rw [HK.out]; exact e6) e7 hW.ap, hW.kp, fun i z' hz' => ?_⟩
    · obtain ⟨_, cur, ho⟩ := rowBlk hnz q hq
      exact hab q cur ho
    · rcases get_snoc _ _ _ _ hz' with ⟨_, q2⟩ | ⟨_, q2⟩
      · exact .inr ⟨i, q2⟩
      · exact .inl (by rw [q2, HN.out])
  · have hki : ¬ (k : Int) < 400 := by omega
    have HBB : Hid (Bb 78 w bb C) := hB
    clear h6 h7 hB hrd0 hap
    go_enter Tryz.func47, Tryz.ntmps47
    go_wp2
    go_end0
    refine ⟨rfl, _, _, x, y, L, ?_, HKK.out, Fk.refl _ _ _ _, fun i z' hz' => .inr ⟨i, hz'⟩⟩
    have e2 : put2 C 6 (.slice a6 k c6) (.slice a7 k c7) = C := by
      rw [← put2_v HV.out]
      refine Array.ext_getElem? fun j => ?_
      by_cases e : j = 6
      · subst e
        rw [Array.getElem?_setIfInBounds_self_of_lt (by omega), HU.out]
      · rw [Array.getElem?_setIfInBounds_ne (fun h => e h.symm)]
    rw [e2]
    exact HBB.out
end Go.Proofs.YtklnfbanfgdgcaaGreatDoor.Kel
namespace Go.Proofs.YtklnfbanfgdgcaaGreatDoor.Kel
open Go.RowKit Go.Shelf Go.Lib

abbrev tEvents := Int × Int × Int × Int × Int × Int × Int × Int × Int × Int × Int × Int × Int × Int × Int
def cEvents (a : tEvents) : List Value := [.int .i64 a.1, .int .i64 a.2.1, .int .i64 a.2.2.1, .int .i64 a.2.2.2.1, .int .i64 a.2.2.2.2.1, .int .i64 a.2.2.2.2.2.1, .int .i64 a.2.2.2.2.2.2.1, .int .u32 a.2.2.2.2.2.2.2.1, .int .u32 a.2.2.2.2.2.2.2.2.1, .int .u32 a.2.2.2.2.2.2.2.2.2.1, .int .u32 a.2.2.2.2.2.2.2.2.2.2.1, .int .u32 a.2.2.2.2.2.2.2.2.2.2.2.1, .int .u32 a.2.2.2.2.2.2.2.2.2.2.2.2.1, .int .u32 a.2.2.2.2.2.2.2.2.2.2.2.2.2.1, .int .u32 a.2.2.2.2.2.2.2.2.2.2.2.2.2.2]
def eEvents (a : tEvents) : Value := .agg #[.int .i64 a.1, .int .i64 a.2.1, .int .i64 a.2.2.1, .int .i64 a.2.2.2.1, .int .i64 a.2.2.2.2.1, .int .i64 a.2.2.2.2.2.1, .int .i64 a.2.2.2.2.2.2.1, .int .u32 a.2.2.2.2.2.2.2.1, .int .u32 a.2.2.2.2.2.2.2.2.1, .int .u32 a.2.2.2.2.2.2.2.2.2.1, .int .u32 a.2.2.2.2.2.2.2.2.2.2.1, .int .u32 a.2.2.2.2.2.2.2.2.2.2.2.1, .int .u32 a.2.2.2.2.2.2.2.2.2.2.2.2.1, .int .u32 a.2.2.2.2.2.2.2.2.2.2.2.2.2.1, .int .u32 a.2.2.2.2.2.2.2.2.2.2.2.2.2.2]
def mEvents (i k : Nat) : tEvents := (0, -1 - (i : Int), 0, (k : Int), 0, 0, 0, 0, 0, 0, 0, 0, 0, 0, 0)
theorem hsEvents : ∀ a, (cEvents a).length = 15 := fun _ => rfl
theorem h1Events : ∀ a, ∀ v ∈ cEvents a, v.oneCell' = true := by
  intro a v h
  simp only [cEvents, List.mem_cons, List.not_mem_nil, or_false] at h
  rcases h with rfl | rfl | rfl | rfl | rfl | rfl | rfl | rfl | rfl | rfl | rfl | rfl | rfl | rfl | rfl <;> rfl
theorem kiEvents : KI 121 56 71 78 15 88 := by
  obtain ⟨i, h1, h2, h3, h4⟩ := info_parts (t := 121) (z := some (.agg #[.int .i64 0, .int .i64 0, .int .i64 0, .int .i64 0, .int .i64 0, .int .i64 0, .int .i64 0, .int .u32 0, .int .u32 0, .int .u32 0, .int .u32 0, .int .u32 0, .int .u32 0, .int .u32 0, .int .u32 0])) (s := 15) (b := 88) (by kernel_rfl)
  exact ⟨⟨i, _, h1, h2, h3, h4, rfl⟩, Tryz.underlying56, info_parts (by kernel_rfl), Tryz.underlying71, by decide, by decide, by decide, by decide, by decide⟩
theorem fldEvents (W : World) (B : Nat) : (Instr.fieldAt 78 (.pointer (some ⟨B, 0, none⟩)) 12).run Tryz.prog W = .ok (.pointer (some ⟨B, 12, none⟩)) W := by go_simp
theorem flcEvents (W : World) (B : Nat) : (Instr.fieldAt 78 (.pointer (some ⟨B, 0, none⟩)) 13).run Tryz.prog W = .ok (.pointer (some ⟨B, 13, none⟩)) W := by go_simp
theorem lddEvents {V : World} {B j n c : Nat} {a : Option Addr} (h : V.cell? ⟨B, j, none⟩ = some (.slice a n c)) : (Instr.loadAt 71 (.pointer (some ⟨B, j, none⟩))).run Tryz.prog V = .ok (.slice a n c) V := by go_simp
theorem ldsEvents {V : World} {B j n c : Nat} {a : Option Addr} (h : V.cell? ⟨B, j, none⟩ = some (.slice a n c)) : (Instr.loadAt 56 (.pointer (some ⟨B, j, none⟩))).run Tryz.prog V = .ok (.slice a n c) V := by go_simp
theorem ixxEvents (g n cap k : Nat) (h : k < n) (w : World) : (Instr.indexAt 71 (.slice (some ⟨g, 0, none⟩) n cap) (.int .i64 (k : Int))).run Tryz.prog w = .ok (.pointer (some ⟨g, k, none⟩)) w := by
  have h1 : (k : Int) < (n : Int) := by omega
  go_simp
theorem ixEvents (gb off n cap k : Nat) (h : k < n) (W : World) : (Instr.indexAt 56 (.slice (some ⟨gb, off, none⟩) n cap) (.int .i64 (k : Int))).run Tryz.prog W = .ok (.pointer (some ⟨gb, off + k * 15, none⟩)) W := by
  have h1 : (k : Int) < (n : Int) := by omega
  have h2 : 0 ≤ (k : Int) := by omega
  go_simp
theorem lnEvents (t : TypeId) (bs : Array Bool) (a : Option Addr) (n c : Nat) (w : World) : (builtin .len #[56] t bs #[.slice a n c]).run Tryz.prog w = .ok (.value (.int .i64 (n : Int))) w := by
  show ((do pure (.value (← Builtin.len_ #[56] t #[.slice a n c]))) : Sem Next).run Tryz.prog w = _
  go_simp
theorem unnEvents (a : Bool) (w : World) : (Op.unary .not (.bool a)).run Tryz.prog w = .ok (.bool (!a)) w := by
  cases a <;> simp [go_sem]
theorem cesEvents {W : World} {b off : Nat} {l : List tEvents} (h : FA W b off (fc cEvents l)) {k : Nat} {a : tEvents} (hk : l[k]? = some a) : W.cell? ⟨b, off + k * 15, none⟩ = some (.int .i64 a.1) ∧ W.cell? ⟨b, off + k * 15 + 1, none⟩ = some (.int .i64 a.2.1) ∧ W.cell? ⟨b, off + k * 15 + 2, none⟩ = some (.int .i64 a.2.2.1) ∧ W.cell? ⟨b, off + k * 15 + 3, none⟩ = some (.int .i64 a.2.2.2.1) ∧ W.cell? ⟨b, off + k * 15 + 4, none⟩ = some (.int .i64 a.2.2.2.2.1) ∧ W.cell? ⟨b, off + k * 15 + 5, none⟩ = some (.int .i64 a.2.2.2.2.2.1) ∧ W.cell? ⟨b, off + k * 15 + 6, none⟩ = some (.int .i64 a.2.2.2.2.2.2.1) ∧ W.cell? ⟨b, off + k * 15 + 7, none⟩ = some (.int .u32 a.2.2.2.2.2.2.2.1) ∧ W.cell? ⟨b, off + k * 15 + 8, none⟩ = some (.int .u32 a.2.2.2.2.2.2.2.2.1) ∧ W.cell? ⟨b, off + k * 15 + 9, none⟩ = some (.int .u32 a.2.2.2.2.2.2.2.2.2.1) ∧ W.cell? ⟨b, off + k * 15 + 10, none⟩ = some (.int .u32 a.2.2.2.2.2.2.2.2.2.2.1) ∧ W.cell? ⟨b, off + k * 15 + 11, none⟩ = some (.int .u32 a.2.2.2.2.2.2.2.2.2.2.2.1) ∧ W.cell? ⟨b, off + k * 15 + 12, none⟩ = some (.int .u32 a.2.2.2.2.2.2.2.2.2.2.2.2.1) ∧ W.cell? ⟨b, off + k * 15 + 13, none⟩ = some (.int .u32 a.2.2.2.2.2.2.2.2.2.2.2.2.2.1) ∧ W.cell? ⟨b, off + k * 15 + 14, none⟩ = some (.int .u32 a.2.2.2.2.2.2.2.2.2.2.2.2.2.2) := by
  have key : ∀ j v, (cEvents a)[j]? = some v → W.cell? ⟨b, off + k * 15 + j, none⟩ = some v := fun j v hj => by
    rw [Nat.add_assoc]
    exact h _ _ ((fc_get hsEvents l k a hk j (List.getElem?_eq_some_iff.1 hj).1).trans hj)
  exact ⟨(by have := key 0 _ rfl; simpa using this), key 1 _ rfl, key 2 _ rfl, key 3 _ rfl, key 4 _ rfl, key 5 _ rfl, key 6 _ rfl, key 7 _ rfl, key 8 _ rfl, key 9 _ rfl, key 10 _ rfl, key 11 _ rfl, key 12 _ rfl, key 13 _ rfl, key 14 _ rfl⟩
theorem ldEvents {W : World} {b off : Nat} {l : List tEvents} (h : FA W b off (fc cEvents l)) {k : Nat} {a : tEvents} (hk : l[k]? = some a) : (Instr.loadAt 121 (.pointer (some ⟨b, off + k * 15, none⟩))).run Tryz.prog W = .ok (eEvents a) W := by
  obtain ⟨c0, c1, c2, c3, c4, c5, c6, c7, c8, c9, c10, c11, c12, c13, c14⟩ := cesEvents h hk
  obtain ⟨o, ho⟩ : ∃ o, off + k * 15 = o := ⟨_, rfl⟩
  rw [ho] at c0 c1 c2 c3 c4 c5 c6 c7 c8 c9 c10 c11 c12 c13 c14 ⊢
  unfold eEvents
  go_simp
theorem putEvents {W : World} {base g n cap : Nat} {l : List tEvents} (h : W.ownsRow base 121 15 (.slice (some ⟨g, 0, none⟩) n cap) n (fc cEvents l)) (hn : n = l.length) {j : Nat} (hj : j < n) (a : tEvents) :
    ∃ V, (Instr.storeAt 121 (.pointer (some ⟨g, 0 + j * 15, none⟩)) (eEvents a)).run Tryz.prog W = .ok () V ∧ V.ownsRow base 121 15 (.slice (some ⟨g, 0, none⟩) n cap) n (fc cEvents (l.set j a)) ∧ W.grownBy V (some g) := by
  have := row_put hsEvents h1Events h hn hj a (eEvents a) rfl (by kernel_rfl)
  skip
  exact this
theorem newEvents (W : World) (cs : Array Value) (t : TypeId) : ∀ j u, cs.toList[j]? = some u → (W.alloc (.cells cs t)).cell? ((⟨W.heap.size, 0, none⟩ : Addr).add j) = some u := by
  intro j u h
  have hg : (W.alloc (.cells cs t)).heap[W.heap.size]? = some (.cells cs t) := new_at rfl
  rw [add_pl, Nat.zero_add, cell_at hg j, ← h]
  simp
set_option maxHeartbeats 4000000 in
set_option maxRecDepth 100000 in
theorem markEvents_any (i f n : Nat) (hi : i ≤ 400) (hf : f ≤ 3000000) (hn : n ≤ 3000000) (w : World) : Calls Tryz.prog 162 #[.int .i64 (i : Int), .int .i64 (f : Int), .int .i64 (n : Int)] w fun e w' => ∃ v, e = .returned v ∧ w'.ownsRow w.heap.size 121 15 v n (fc cEvents (mkL mEvents i f n)) ∧ Below w.heap.size w w' := by
  obtain ⟨ic, zc, hic, hz0, hz1, hz2, hz3⟩ := kiEvents.iT
  go_enter Tryz.func162, Tryz.ntmps162
  go_wp2
  go_loopw [7, 8] (fun v k wz => ∃ j : Nat, k = .int .i64 ((f + j : Nat) : Int) ∧ j ≤ n ∧ wz.ownsRow w.heap.size 121 15 v j (fc cEvents (mkL mEvents i f j)) ∧ Below w.heap.size w wz) (fun _ k _ => f + n - vnat k)
  case atStart => exact ⟨0, rfl, Nat.zero_le _, World.ownsRow_nil _ _ _ _, Below.refl _ _⟩
  case round =>
    obtain ⟨j, rfl, hj, hrow, hbw⟩ := hrel
    have hsw := hbw.size
    by_cases hjn : j < n
    · have hji : ((f + j : Nat) : Int) < (f : Int) + (n : Int) := by omega
      obtain ⟨q, hq⟩ : ∃ q, f + j = q := ⟨_, rfl⟩
      rw [hq] at hji ⊢
      have hq2 : q ≤ 6000000 := by omega
      have HF : fc cEvents (mkL mEvents i f (j + 1)) = fc cEvents (mkL mEvents i f j) ++ cEvents ((0, -1 - (i : Int), 0, (q : Int), 0, 0, 0, 0, 0, 0, 0, 0, 0, 0, 0)) := by
        rw [mkL_succ, fc_append, hq]
        simp [fc, mEvents]
      have HQ : Hid (f + j = q) := hq
      have HF : Hid (fc cEvents (mkL mEvents i f (j + 1)) = fc cEvents (mkL mEvents i f j) ++ [.int .i64 0, .int .i64 (-1 - (i : Int)), .int .i64 0, .int .i64 (q : Int), .int .i64 0, .int .i64 0, .int .i64 0, .int .u32 0, .int .u32 0, .int .u32 0, .int .u32 0, .int .u32 0, .int .u32 0, .int .u32 0, .int .u32 0]) := HF
      clear hq
      go_wp2_with (at_builtin; refine wpList_append_own _ rfl _ _ 56 rfl w.heap.size 121 ic _ 15 88 Tryz.underlying56 hic hz0 hz1 hz2 hz3 (by decide) _ j (fc cEvents (mkL mEvents i f j)) rfl (hrow.alloc _) ⟨wr.heap.size, 0, none⟩ 1 1 [_, _, _, _, _, _, _, _, _, _, _, _, _, _, _] rfl rfl (newEvents _ #[_, _, _, _, _, _, _, _, _, _, _, _, _, _, _] _) (by simp [Value.oneCell']) (by unfold maxLen; omega) (by omega) (Nat.le_trans hsw (by simp)) ?_; intro v' w2 hown' hgrow _)
      go_roundw
      case rel =>
        refine ⟨j + 1, by have := HQ.out; simp; omega, by omega, ?_, (hbw.alloc hsw _).grown hgrow (Nat.le_trans hsw (by simp)) (fun q e => (row_lt hrow q e).1)⟩
        rw [HF.out]
        exact hown'
      case measure => have := HQ.out; simp [vnat]; omega
    · have hjj : j = n := by omega
      subst hjj
      have hji : ¬ ((f + j : Nat) : Int) < (f : Int) + (j : Int) := by omega
      go_wp2
      go_ret
      exact ⟨_, rfl, hrow, hbw⟩
theorem qs4 (c : Array Value) (z : Nat → Int) (hc : ∀ j, j < 4 → c[j]? = some (.int .u32 (z j))) (j : Nat) (hj : j < 4) (is : List Nat) (w : World) : (Op.eqItems 9998 49 1 c c (j :: is)).run Tryz.prog w = (Op.eqItems 9998 49 1 c c is).run Tryz.prog w := by
  have he : Tryz.prog.plainKey 49 = true := by kernel_rfl
  have p1 := run_part_plain (P := Tryz.prog) w he (off := j * 1) (by rw [Nat.mul_one]; exact hc j hj)
  have p3 := run_equalIn_int (P := Tryz.prog) w 9997 49 .u32 .u32 (z j) (z j) Tryz.underlying49
  rw [Op.eqItems]
  simp only [Sem.run_bind, p1, Result.andThen_ok]
  rw [p3]
  simp
theorem eqS4 (p q r s : Int) (w : World) : (Op.equalIn 9999 51 (.agg #[.int .u32 p, .int .u32 q, .int .u32 r, .int .u32 s]) (.agg #[.int .u32 p, .int .u32 q, .int .u32 r, .int .u32 s])).run Tryz.prog w = .ok true w := by
  have hi : (Tryz.prog.info? 49).isSome = true := by kernel_rfl
  obtain ⟨i, hi⟩ := Option.isSome_iff_exists.1 hi
  have hc : Tryz.prog.cellsOf 49 = 1 := by kernel_rfl
  have hz : ∀ j, j < 4 → (#[.int .u32 p, .int .u32 q, .int .u32 r, .int .u32 s] : Array Value)[j]? = some (.int .u32 ([p, q, r, s].getD j 0)) := fun j hj => by
    rcases (show j = 0 ∨ j = 1 ∨ j = 2 ∨ j = 3 by omega) with rfl | rfl | rfl | rfl <;> rfl
  rw [run_equalIn_array w 9998 _ _ Tryz.underlying51 hi, hc, show List.range 4 = [0, 1, 2, 3] from rfl]
  rw [qs4 _ _ hz 0 (by decide), qs4 _ _ hz 1 (by decide), qs4 _ _ hz 2 (by decide), qs4 _ _ hz 3 (by decide)]
  simp [Op.eqItems]
theorem eqEvents {x y : Operand} (a : tEvents) (w : World) : binRun Tryz.prog .eql 121 x y (eEvents a) (eEvents a) w = .ok (.bool true) w := by
  have h4 := eqS4
  unfold binRun eEvents
  go_simp
set_option maxHeartbeats 4000000 in
set_option maxRecDepth 100000 in
theorem sameEvents_any (ad ad' : Option Addr) (n cap cap' : Nat) (l : List tEvents) (hn : n = l.length) (w : World) (h : RdF w ad (fc cEvents l)) (h' : RdF w ad' (fc cEvents l)) (hl : n ≤ 4611686018427387904) : Calls Tryz.prog 51 #[.slice ad n cap, .slice ad' n cap'] w fun e w' => e = .returned (.bool true) ∧ Below w.heap.size w w' := by
  have hmx : Tryz.prog.follows .mixedOrders = true := by kernel_rfl
  have HN : Hid (n = l.length) := hn
  clear hn
  go_enter Tryz.func51, Tryz.ntmps51
  go_wp2
  go_loopw [5] (fun c wz => ∃ k : Nat, c = .int .i64 k ∧ k ≤ n ∧ Below w.heap.size w wz) (fun c _ => n - vnat c)
  case atStart => exact ⟨0, rfl, Nat.zero_le _, Below.refl _ _⟩
  case round =>
    obtain ⟨k, rfl, hk, hbw⟩ := hrel
    by_cases hkl : k < n
    · have hki : (k : Int) < (n : Int) := by omega
      have hne : fc cEvents l ≠ [] := fun e => by
        have := fc_len hsEvents l
        rw [e, ← HN.out] at this
        simp at this
        omega
      obtain ⟨b, off, rfl, hgl, hat⟩ := h hne
      obtain ⟨b', off', rfl, hgl', hat'⟩ := h' hne
      obtain ⟨a, hx⟩ : ∃ a, l[k]? = some a := ⟨_, List.getElem?_eq_getElem (by rw [← HN.out]; exact hkl)⟩
      go_wp2
      refine wp_region_any hmx ?_
      refine wpAny_pure (fun i__ => ([(.slice (some ⟨b, off, none⟩) n cap), (.int .i64 (k : Int)), (.pointer (some ⟨b, off + k * 15, none⟩)), (eEvents a), (.slice (some ⟨b', off', none⟩) n cap'), (.int .i64 (k : Int)), (.pointer (some ⟨b', off' + k * 15, none⟩)), (eEvents a), (.bool true), (.bool false)] : List Value).getD i__ undef) (fun W => Below w.heap.size w W) (by kernel_rfl) hbw.drew ?_ ?_
      · refine (stepsFrom_cons ?_ (stepsFrom_cons ?_ (stepsFrom_cons ?_ (stepsFrom_cons ?_ (stepsFrom_cons ?_ (stepsFrom_cons ?_ (stepsFrom_cons ?_ (stepsFrom_cons ?_ (stepsFrom_cons ?_ (stepsFrom_cons ?_ trivial))))))))))
        · exact step_move rfl trivial _ rfl (by kernel_rfl)
        · exact step_move rfl trivial _ rfl (by kernel_rfl)
        · exact step_indexAddr rfl trivial _ _ _ _ _ rfl rfl rfl (fun w hw => ixEvents b off _ _ k hkl w)
        · exact step_load rfl trivial _ _ _ rfl rfl (fun w hw => ldEvents (hat.of (hw.block _ hgl)) hx)
        · exact step_move rfl trivial _ rfl (by kernel_rfl)
        · exact step_move rfl trivial _ rfl (by kernel_rfl)
        · exact step_indexAddr rfl trivial _ _ _ _ _ rfl rfl rfl (fun w hw => ixEvents b' off' _ _ k hkl w)
        · exact step_load rfl trivial _ _ _ rfl rfl (fun w hw => ldEvents (hat'.of (hw.block _ hgl')) hx)
        · exact step_binOp rfl trivial _ _ _ _ _ _ _ rfl rfl rfl (fun w hw => eqEvents a w)
        · exact step_unOp rfl trivial _ _ _ _ rfl rfl (fun w hw => unnEvents true w)
      intro W hW
      first | refine hK _ _ ?_ | refine (‹∀ (a : Act) (w : World), Code.wp Tryz.prog _ _ a w → _›) _ _ ?_ | skip
      simp only [finL, List.getD_cons_zero, List.getD_cons_succ, Nat.zero_add, Nat.reduceAdd, List.setIfInBounds_toArray, List.set_cons_zero, List.set_cons_succ]
      go_wp2
      go_roundw
      case rel => exact ⟨k + 1, by simp, by omega, hW⟩
      case measure => simp [vnat]; omega
    · have hkk : k = n := by omega
      subst hkk
      have hki : ¬ ((k : Int) < (k : Int)) := by omega
      go_wp2
      go_ret
      exact ⟨rfl, hbw⟩
set_option maxHeartbeats 4000000 in
set_option maxRecDepth 100000 in
theorem stillEvents_any {base bb : Nat} {w : World} {u v : Value} {C : Array Value} {x y : List Value} {L : List (List tEvents)} (hB : Bb 78 w bb C) (hu : C[12]? = some u) (hv : C[13]? = some v) (h : Kl cEvents 15 121 56 base w u x L) (hc : Cl cEvents 56 base w v y L) : Calls Tryz.prog 59 #[.pointer (some ⟨bb, 0, none⟩)] w fun e w' => e = .returned (.bool true) ∧ Below w.heap.size w w' := by
  have hmx : Tryz.prog.follows .mixedOrders = true := by kernel_rfl
  obtain ⟨au, cu, eu, _⟩ := rowForm h.row
  have m6 : ∀ V, Below w.heap.size w V → V.cell? ⟨bb, 12, none⟩ = some (.slice au L.length cu) := fun V hV => by
    rw [cell_at ((hV.block _ (lt_at hB)).trans hB), hu, eu]
  obtain ⟨av, cv, ev, _⟩ := rowForm hc.row
  have m7 : ∀ V, Below w.heap.size w V → V.cell? ⟨bb, 13, none⟩ = some (.slice av L.length cv) := fun V hV => by
    rw [cell_at ((hV.block _ (lt_at hB)).trans hB), hv, ev]
  have hk4 := h.k
  obtain ⟨N, hN⟩ : ∃ N, N = L.length := ⟨_, rfl⟩
  rw [← hN] at m6 m7 eu ev hk4
  have HN : Hid (N = L.length) := hN
  clear hN hu hv
  go_enter Tryz.func59, Tryz.ntmps59
  go_wp2
  go_loopw [3] (fun i wz => ∃ k : Nat, i = .int .i64 (k : Int) ∧ k ≤ N ∧ Below w.heap.size w wz) (fun i _ => N - vnat i)
  case atStart => exact ⟨0, rfl, Nat.zero_le _, Below.refl _ _⟩
  case round =>
    obtain ⟨k, rfl, hk, hb⟩ := hrel
    have mm := m6 _ hb
    by_cases hkl : k < N
    · have hki : (k : Int) < (N : Int) := by omega
      obtain ⟨l, hl⟩ : ∃ l, L[k]? = some l := ⟨_, List.getElem?_eq_getElem (by rw [← HN.out]; exact hkl)⟩
      obtain ⟨gu, cu', z, e1, c1, hxz, hfl, hln⟩ := h.cell hl
      rw [eu] at e1
      simp only [Value.slice.injEq] at e1
      obtain ⟨rfl, -, rfl⟩ := e1
      obtain ⟨adx, cx, rfl, hrx, -⟩ := own_rd hfl
      obtain ⟨ady, cy, hyz, hry⟩ := hc.ks k l hl
      have hcr := hc.row
      rcases own_form hcr with ⟨_, e⟩ | ⟨gv, cv', e2, _⟩
      · have := HN.out
        omega
      rw [e2] at hcr
      rw [ev] at e2
      simp only [Value.slice.injEq] at e2
      obtain ⟨rfl, -, rfl⟩ := e2
      have c2 : w.cell? ⟨gv, k, none⟩ = some (.slice ady l.length cy) := (hcr.cellAt _ (by have := hc.row.1; have := HN.out; omega)).trans hyz
      have hgu := cell_lt c1
      have hgv := cell_lt c2
      clear hyz hxz hl
      obtain ⟨ll, hll⟩ : ∃ ll, ll = l.length := ⟨_, rfl⟩
      rw [← hll] at c1 c2 hln
      have HLL : Hid (ll = l.length) := hll
      clear hll
      go_wp2
      rename_i hK
      refine wp_region_any hmx ?_
      refine wpAny_pure (fun i__ => ([(.pointer (some ⟨bb, 0, none⟩)), (.pointer (some ⟨bb, 0, none⟩)), (.pointer (some ⟨bb, 12, none⟩)), (.slice (some ⟨gu, 0, none⟩) N cu), (.int .i64 (k : Int)), (.pointer (some ⟨gu, k, none⟩)), (.slice adx ll cx), (.pointer (some ⟨bb, 0, none⟩)), (.pointer (some ⟨bb, 0, none⟩)), (.pointer (some ⟨bb, 13, none⟩)), (.slice (some ⟨gv, 0, none⟩) N cv), (.int .i64 (k : Int)), (.pointer (some ⟨gv, k, none⟩)), (.slice ady ll cy), (.bool true), (.bool false)] : List Value).getD i__ undef) (fun V => Below w.heap.size w V) (by kernel_rfl) (hb.drew) ?_ ?_
      · refine (stepsFrom_cons ?_ (stepsFrom_cons ?_ (stepsFrom_cons ?_ (stepsFrom_cons ?_ (stepsFrom_cons ?_ (stepsFrom_cons ?_ (stepsFrom_cons ?_ (stepsFrom_cons ?_ (stepsFrom_cons ?_ (stepsFrom_cons ?_ (stepsFrom_cons ?_ (stepsFrom_cons ?_ (stepsFrom_cons ?_ (stepsFrom_cons ?_ (stepsFrom_cons ?_ (stepsFrom_cons ?_ trivial))))))))))))))))
        · exact step_move rfl trivial _ rfl (by kernel_rfl)
        · exact step_nilCheck rfl trivial _ _ _ rfl rfl rfl
        · exact step_fieldAddr rfl trivial _ _ _ _ rfl rfl (fun v hw => fldEvents v _)
        · exact step_load rfl trivial _ _ _ rfl rfl (fun v hw => lddEvents (m6 v hw))
        · exact step_move rfl trivial _ rfl (by kernel_rfl)
        · exact step_indexAddr rfl trivial _ _ _ _ _ rfl rfl rfl (fun v hw => ixxEvents gu _ _ k hkl v)
        · exact step_load rfl trivial _ _ _ rfl rfl (fun v hw => ldsEvents ((hw.cell (p := ⟨gu, k, none⟩) hgu).trans c1))
        · exact step_move rfl trivial _ rfl (by kernel_rfl)
        · exact step_nilCheck rfl trivial _ _ _ rfl rfl rfl
        · exact step_fieldAddr rfl trivial _ _ _ _ rfl rfl (fun v hw => flcEvents v _)
        · exact step_load rfl trivial _ _ _ rfl rfl (fun v hw => lddEvents (m7 v hw))
        · exact step_move rfl trivial _ rfl (by kernel_rfl)
        · exact step_indexAddr rfl trivial _ _ _ _ _ rfl rfl rfl (fun v hw => ixxEvents gv _ _ k hkl v)
        · exact step_load rfl trivial _ _ _ rfl rfl (fun v hw => ldsEvents ((hw.cell (p := ⟨gv, k, none⟩) hgv).trans c2))
        · exact step_call rfl trivial 51 _ _ [(.slice adx ll cx), (.slice ady ll cy)] rfl (by kernel_rfl) (enters_of Tryz.func51 (by kernel_rfl) rfl) (fun v hw => (sameEvents_any adx ady ll cx cy l HLL.out v (hrx.carry hw) (hry.carry hw) (by omega)).mono (by rintro e w' ⟨rfl, hb'⟩; exact ⟨rfl, bel2 hw hb'⟩))
        · exact step_unOp rfl trivial _ _ _ _ rfl rfl (fun v hw => unnEvents true v)
      intro W hW
      first | refine hK _ _ ?_ | refine (‹∀ (a : Act) (w : World), Code.wp Tryz.prog _ _ a w → _›) _ _ ?_ | skip
      simp only [finL, List.getD_cons_zero, List.getD_cons_succ, Nat.zero_add, Nat.reduceAdd, List.setIfInBounds_toArray, List.set_cons_zero, List.set_cons_succ]
      clear hK
      go_wp2
      go_roundw
      case rel => exact ⟨k + 1, by simp, by omega, hW⟩
      case measure => simp [vnat]; omega
    · have hki : ¬ (k : Int) < (N : Int) := by omega
      go_wp2
      go_ret
      exact ⟨rfl, hb⟩
set_option maxHeartbeats 4000000 in
set_option maxRecDepth 100000 in
theorem markedEvents_any {base k : Nat} {w : World} {uu : Value} {xs : List Value} (h : w.ownsRow base 56 1 uu k xs) (hm : Mkn mEvents cEvents w xs) (hk : k ≤ 400) : Calls Tryz.prog 95 #[uu] w fun e w' => e = .returned (.bool true) ∧ Below w.heap.size w w' := by
  have hmx : Tryz.prog.follows .mixedOrders = true := by kernel_rfl
  obtain ⟨au, cu, eu, _⟩ := rowForm h
  subst eu
  have hlen : xs.length = k := by have := h.1; omega
  go_enter Tryz.func95, Tryz.ntmps95
  go_wp2
  go_loopw [3] (fun i wz => ∃ j : Nat, i = .int .i64 (j : Int) ∧ j ≤ k ∧ Below w.heap.size w wz) (fun i _ => k - vnat i)
  case atStart => exact ⟨0, rfl, Nat.zero_le _, Below.refl _ _⟩
  case round =>
    obtain ⟨j, rfl, hj, hb⟩ := hrel
    by_cases hjk : j < k
    · have hji : (j : Int) < (k : Int) := by omega
      obtain ⟨z, hz⟩ : ∃ z, xs[j]? = some z := ⟨_, List.getElem?_eq_getElem (by omega)⟩
      obtain ⟨adx, n, c, rfl, hrx, hn⟩ := hm j z hz
      rcases own_form h with ⟨_, e⟩ | ⟨gu, cu', e1, _⟩
      · omega
      cases e1
      have c1 : w.cell? ⟨gu, j, none⟩ = some (.slice adx n c) := (h.cellAt _ (by omega)).trans hz
      have hgu := cell_lt c1
      go_wp2
      rename_i hK
      refine wp_region_any hmx ?_
      refine wpAny_tabG (G := Value) (fun g i__ => ([(.slice (some ⟨gu, 0, none⟩) k cu), (.int .i64 (j : Int)), (.pointer (some ⟨gu, j, none⟩)), (.slice adx n c), (.int .i64 (j : Int)), (.slice (some ⟨gu, 0, none⟩) k cu), (.int .i64 (j : Int)), (.pointer (some ⟨gu, j, none⟩)), (.slice adx n c), (.int .i64 (n : Int)), g, (.bool true), (.bool false)] : List Value).getD i__ undef) (fun g d V => Below w.heap.size w V ∧ (d 10 = true → V.ownsRow w.heap.size 121 15 g n (fc cEvents (mkL mEvents j 0 n)))) (by kernel_rfl) (undef) (⟨hb.drew, fun q => by cases q⟩) ?step34 ?fin34
      case step34 =>
        intro i o ho
        have hi : i < 13 := getElem?_lt ho
        match i, hi, ho with
        | 0, _, ho =>
          cases ho
          refine stepG_of (fun g d hdep => ?_)
          exact step_move rfl trivial _ rfl (by kernel_rfl)
        | 1, _, ho =>
          cases ho
          refine stepG_of (fun g d hdep => ?_)
          exact step_move rfl trivial _ rfl (by kernel_rfl)
        | 2, _, ho =>
          cases ho
          refine stepG_of (fun g d hdep => ?_)
          exact step_indexAddr rfl trivial _ _ _ _ _ rfl rfl rfl (fun v hw => ixxEvents gu _ _ j hjk v)
        | 3, _, ho =>
          cases ho
          refine stepG_of (fun g d hdep => ?_)
          exact step_load rfl trivial _ _ _ rfl rfl (fun v hw => ldsEvents ((hw.1.cell (p := ⟨gu, j, none⟩) hgu).trans c1))
        | 4, _, ho =>
          cases ho
          refine stepG_of (fun g d hdep => ?_)
          exact step_move rfl trivial _ rfl (by kernel_rfl)
        | 5, _, ho =>
          cases ho
          refine stepG_of (fun g d hdep => ?_)
          exact step_move rfl trivial _ rfl (by kernel_rfl)
        | 6, _, ho =>
          cases ho
          refine stepG_of (fun g d hdep => ?_)
          exact step_move rfl trivial _ rfl (by kernel_rfl)
        | 7, _, ho =>
          cases ho
          refine stepG_of (fun g d hdep => ?_)
          exact step_indexAddr rfl trivial _ _ _ _ _ rfl rfl rfl (fun v hw => ixxEvents gu _ _ j hjk v)
        | 8, _, ho =>
          cases ho
          refine stepG_of (fun g d hdep => ?_)
          exact step_load rfl trivial _ _ _ rfl rfl (fun v hw => ldsEvents ((hw.1.cell (p := ⟨gu, j, none⟩) hgu).trans c1))
        | 9, _, ho =>
          cases ho
          refine stepG_of (fun g d hdep => ?_)
          exact step_bi rfl trivial _ _ _ [(.slice adx n c)] rfl (by kernel_rfl) (fun bs v hw => lnEvents _ bs _ _ _ v)
        | 10, _, ho =>
          cases ho
          exact stepG_call rfl (fun _ => trivial) 162 _ _ (fun _ => [.int .i64 (j : Int), .int .i64 0, .int .i64 (n : Int)]) rfl (fun g => by kernel_rfl) (enters_of Tryz.func162 (by kernel_rfl) rfl) (fun g d V hJ hun hdep hcl => (markEvents_any j 0 n (by omega) (by omega) (by omega) V).mono (by rintro e V' ⟨v', rfl, hro, hb'⟩; refine ⟨v', rfl, (fun j hj => match j, hj with | 10, hj => (by rw [hj] at hun; cases hun)  | 0, _ => rfl | 1, _ => rfl | 2, _ => rfl | 3, _ => rfl | 4, _ => rfl | 5, _ => rfl | 6, _ => rfl | 7, _ => rfl | 8, _ => rfl | 9, _ => rfl | 11, _ => rfl | 12, _ => rfl | _ + 13, _ => rfl), ?_⟩; exact ⟨bel2 hJ.1 hb', fun _ => row_base hro hJ.1.size⟩))
        | 11, _, ho =>
          cases ho
          refine stepG_of (fun g d hdep => ?_)
          exact step_call rfl trivial 51 _ _ [(.slice adx n c), g] rfl (by kernel_rfl) (enters_of Tryz.func51 (by kernel_rfl) rfl) (fun v hw => by have h1 : d 10 = true := hdep 10 (by kernel_rfl); have ho := hw.2 h1; obtain ⟨a', c', e', hr', -⟩ := own_rd ho; have hq := sameEvents_any adx a' n c c' (mkL mEvents j 0 n) (mkL_len j 0 n).symm v (hrx.carry hw.1) hr' (by omega); show Calls Tryz.prog _ [Value.slice adx n c, g].toArray v _; rw [e'] at ho ⊢; exact hq.mono (by rintro e w' ⟨rfl, hb'⟩; exact ⟨rfl, bel2 hw.1 hb', fun _ => row_below ho hb'⟩))
        | 12, _, ho =>
          cases ho
          refine stepG_of (fun g d hdep => ?_)
          exact step_unOp rfl trivial _ _ _ _ rfl rfl (fun v hw => unnEvents true v)
      intro g d W hall hW
      first | refine hK _ _ ?_ | refine (‹∀ (a : Act) (w : World), Code.wp Tryz.prog _ _ a w → _›) _ _ ?_ | skip
      simp only [finL, List.getD_cons_zero, List.getD_cons_succ, Nat.zero_add, Nat.reduceAdd, List.setIfInBounds_toArray, List.set_cons_zero, List.set_cons_succ]
      have hWb := hW.1
      clear hK hall hW
      go_wp2
      go_roundw
      case rel => exact ⟨j + 1, by simp, by omega, hWb⟩
      case measure => simp [vnat]; omega
    · have hji : ¬ (j : Int) < (k : Int) := by omega
      go_wp2
      go_ret
      exact ⟨rfl, hb⟩
set_option maxHeartbeats 8000000 in
set_option maxRecDepth 100000 in
theorem putEvents_any {base bb : Nat} {w : World} {u : Value} {C : Array Value} {x : List Value} {L : List (List tEvents)} (hB : Bb 78 w bb C) (hu : C[12]? = some u) (h : Kl cEvents 15 121 56 base w u x L) : Calls Tryz.prog 71 #[.pointer (some ⟨bb, 0, none⟩)] w fun e w' => e = .returned (.tuple #[]) ∧ (∃ L', Kl cEvents 15 121 56 base w' u x L' ∧ upN mEvents L L' L.length) ∧ Bx x w w' := by
  have hmx : Tryz.prog.follows .mixedOrders = true := by kernel_rfl
  have hTT : (121 : TypeId) ≠ 56 := by decide
  obtain ⟨au, cu, eu, _⟩ := rowForm h.row
  subst eu
  have hk4 := h.k
  have hpB := h.px hB (by decide)
  have m6 : ∀ (V : World), Bx x w V → V.cell? ⟨bb, 12, none⟩ = some (.slice au L.length cu) := fun V hV => by
    rw [cell_at ((hV.block _ (lt_at hB) hpB).trans hB), hu]
  obtain ⟨N, hN⟩ : ∃ N, N = L.length := ⟨_, rfl⟩
  rw [← hN] at m6 h hk4 ⊢
  have HN : Hid (N = L.length) := hN
  clear hN hu
  go_enter Tryz.func71, Tryz.ntmps71
  go_wp2
  go_loopw [2] (fun i wz => ∃ (k : Nat) (L' : List (List tEvents)), i = .int .i64 (k : Int) ∧ k ≤ N ∧ Kl cEvents 15 121 56 base wz (.slice au N cu) x L' ∧ upN mEvents L L' k ∧ Bx x w wz) (fun i _ => N - vnat i)
  case atStart => exact ⟨0, L, rfl, Nat.zero_le _, h, upN.zero L, Bx.refl _ _⟩
  case round =>
    obtain ⟨k, L', rfl, hk, hK', hup, hbw⟩ := hrel
    have mm := m6 _ hbw
    by_cases hkl : k < N
    case neg =>
      have hki : ¬ (k : Int) < (N : Int) := by omega
      obtain rfl : k = N := by omega
      go_wp2
      go_end0
      exact ⟨rfl, ⟨L', hK', hup⟩, hbw⟩
    have hki : (k : Int) < (N : Int) := by omega
    obtain ⟨l, hl⟩ : ∃ l, L[k]? = some l := ⟨_, List.getElem?_eq_getElem (by rw [← HN.out]; exact hkl)⟩
    have hl' : L'[k]? = some l := by rw [hup.2 k l hl, if_neg (by omega)]
    obtain ⟨gu, cu', z, e1, c1, hxz, hfl, hln⟩ := hK'.cell hl'
    simp only [Value.slice.injEq] at e1
    obtain ⟨rfl, -, rfl⟩ := e1
    obtain ⟨adx, cx, rfl, hrx, -⟩ := own_rd hfl
    obtain ⟨ll, hll⟩ : ∃ ll, ll = l.length := ⟨_, rfl⟩
    rw [← hll] at c1 hln hfl hxz
    have HLL : Hid (ll = l.length) := hll
    have hmk := markEvents_any k 0 ll (by omega) (by omega) (by omega) wr
    have hgx : ∀ g, (Value.slice adx ll cx).ownBlock = some g → g < wr.heap.size ∧ base ≤ g := fun g e => (row_lt hfl g e).symm
    obtain ⟨sz, hsz⟩ : ∃ sz, wr.heap.size = sz := ⟨_, rfl⟩
    rw [hsz] at hgx hmk
    have HSZ : Hid (wr.heap.size = sz) := hsz
    clear hsz
    have HLK : Hid (L[k]? = some l) := hl
    have HLK' : Hid (L'[k]? = some l) := hl'
    have HXZ : Hid (x[k]? = some (.slice adx ll cx)) := hxz
    have HUP : Hid (upN mEvents L L' k) := hup
    clear hl hl' hxz hup hll
    have hmk : Calls Tryz.prog 162 #[.int .i64 (k : Int), .int .i64 0, .int .i64 (ll : Int)] wr (fun e w' => ∃ v, e = .returned v ∧ w'.ownsRow sz 121 15 v ll (fc cEvents (mkL mEvents k 0 ll)) ∧ Below sz wr w') := hmk
    go_wp2_with (go_at_call 162; (with_reducible refine hmk.mono ?_); rintro e va ⟨vm, rfl, hro, hba⟩; obtain ⟨am, cm, em, _⟩ := rowForm hro; subst em; have hba' : Below wr.heap.size wr va := (by rw [HSZ.out]; exact hba); have hKa := hK'.carry hba'; have hBa := hbw.below hba')
    go_loopw [4] (fun i wz => ∃ j : Nat, i = .int .i64 (j : Int) ∧ j ≤ ll ∧ Kl cEvents 15 121 56 base wz (.slice (some ⟨gu, 0, none⟩) N cu) x (L'.set k ((mkL mEvents k 0 ll).take j ++ l.drop j)) ∧ wz.ownsRow sz 121 15 (.slice am ll cm) ll (fc cEvents (mkL mEvents k 0 ll)) ∧ Bx x w wz) (fun i _ => ll - vnat i)
    case atStart => exact ⟨0, rfl, Nat.zero_le _, by rw [List.take_zero, List.nil_append, List.drop_zero, set_same HLK'.out]; exact hKa, hro, hBa⟩
    case round =>
      obtain ⟨j, rfl, hj, hKj, hrj, hBj⟩ := hrel
      have mj := m6 _ hBj
      by_cases hjl : j < ll
      case neg =>
        have hji : ¬ (j : Int) < (ll : Int) := by omega
        obtain rfl : j = ll := by omega
        have hfin : (mkL mEvents k 0 j).take j ++ l.drop j = mkL mEvents k 0 j := by rw [List.take_of_length_le (by rw [mkL_len]; omega), List.drop_of_length_le (by rw [← HLL.out]; omega), List.append_nil]
        rw [hfin] at hKj
        go_wp2
        go_roundw
        case rel => exact ⟨k + 1, _, by simp, by omega, hKj, by have := HUP.out.succ HLK.out; rw [← HLL.out] at this; exact this, hBj⟩
        case measure => simp [vnat]; omega
      have hji : (j : Int) < (ll : Int) := by omega
      have hy := mkL_get (mk := mEvents) k ll j hjl
      rcases own_form hrj with ⟨_, e⟩ | ⟨gm, cm', em, hgm, hgm2, _⟩
      · omega
      simp only [Value.slice.injEq] at em
      obtain ⟨rfl, -, rfl⟩ := em
      have hll : ((mkL mEvents k 0 ll).take j ++ l.drop j).length = ll := by rw [List.length_append, List.length_take, mkL_len, List.length_drop, ← HLL.out]; omega
      have hcl : (L'.set k ((mkL mEvents k 0 ll).take j ++ l.drop j))[k]? = some ((mkL mEvents k 0 ll).take j ++ l.drop j) := List.getElem?_set_self (List.getElem?_eq_some_iff.1 HLK'.out).1
      have hst : ((mkL mEvents k 0 ll).take j ++ l.drop j).set j (mEvents k j) = (mkL mEvents k 0 ll).take (j + 1) ++ l.drop (j + 1) := take_put hy (by rw [mkL_len]; exact HLL.out.symm)
      rcases own_form hfl with ⟨_, e⟩ | ⟨g, cg, ez, _⟩
      · omega
      simp only [Value.slice.injEq] at ez
      obtain ⟨rfl, -, rfl⟩ := ez
      obtain ⟨hglt, hgb⟩ := hgx g rfl
      have hgmg : gm ≠ g := by omega
      have HY : Hid ((mkL mEvents k 0 ll)[j]? = some (mEvents k j)) := hy
      clear hy
      have hspot : ∀ V, Kl cEvents 15 121 56 base V (.slice (some ⟨gu, 0, none⟩) N cu) x (L'.set k ((mkL mEvents k 0 ll).take j ++ l.drop j)) → V.cell? ⟨gu, k, none⟩ = some (.slice (some ⟨g, 0, none⟩) ll cx) := fun V hV => by
        obtain ⟨gu2, cu2, z2, q1, q2, q3, _⟩ := hV.cell hcl
        simp only [Value.slice.injEq, Option.some.injEq, Addr.mk.injEq] at q1
        obtain ⟨⟨rfl, -⟩, -⟩ := q1
        rw [HXZ.out] at q3
        obtain rfl := Option.some.inj q3
        exact q2
      go_wp2
      rename_i hK
      refine wp_region_any hmx ?_
      refine wpAny_last 13 (fun i__ => ([(.pointer (some ⟨bb, 0, none⟩)), (.pointer (some ⟨bb, 0, none⟩)), (.pointer (some ⟨bb, 12, none⟩)), (.slice (some ⟨gu, 0, none⟩) N cu), (.int .i64 (k : Int)), (.pointer (some ⟨gu, k, none⟩)), (.slice (some ⟨g, 0, none⟩) ll cx), (.int .i64 (j : Int)), (.slice (some ⟨gm, 0, none⟩) ll cm), (.int .i64 (j : Int)), (.pointer (some ⟨gm, 0 + j * 15, none⟩)), (eEvents (mEvents k j)), (.pointer (some ⟨g, 0 + j * 15, none⟩)), undef] : List Value).getD i__ undef) (fun V => Kl cEvents 15 121 56 base V (.slice (some ⟨gu, 0, none⟩) N cu) x (L'.set k ((mkL mEvents k 0 ll).take j ++ l.drop j)) ∧ V.ownsRow sz 121 15 (.slice (some ⟨gm, 0, none⟩) ll cm) ll (fc cEvents (mkL mEvents k 0 ll)) ∧ Bx x w V) (fun V => Kl cEvents 15 121 56 base V (.slice (some ⟨gu, 0, none⟩) N cu) x (L'.set k ((mkL mEvents k 0 ll).take (j + 1) ++ l.drop (j + 1))) ∧ V.ownsRow sz 121 15 (.slice (some ⟨gm, 0, none⟩) ll cm) ll (fc cEvents (mkL mEvents k 0 ll)) ∧ Bx x w V) rfl (by kernel_rfl) (by kernel_rfl) (⟨hKj.carry (Below.refl _ _).drew, row_below hrj (Below.refl _ _).drew, hBj.below (Below.refl _ _).drew⟩) ?_ ?_  ?_
      · refine (stepsFrom_cons ?_ (stepsFrom_cons ?_ (stepsFrom_cons ?_ (stepsFrom_cons ?_ (stepsFrom_cons ?_ (stepsFrom_cons ?_ (stepsFrom_cons ?_ (stepsFrom_cons ?_ (stepsFrom_cons ?_ (stepsFrom_cons ?_ (stepsFrom_cons ?_ (stepsFrom_cons ?_ (stepsFrom_cons ?_ trivial)))))))))))))
        · exact step_move rfl trivial _ rfl (by kernel_rfl)
        · exact step_nilCheck rfl trivial _ _ _ rfl rfl rfl
        · exact step_fieldAddr rfl trivial _ _ _ _ rfl rfl (fun v hw => fldEvents v _)
        · exact step_load rfl trivial _ _ _ rfl rfl (fun v hw => lddEvents (m6 _ hw.2.2))
        · exact step_move rfl trivial _ rfl (by kernel_rfl)
        · exact step_indexAddr rfl trivial _ _ _ _ _ rfl rfl rfl (fun v hw => ixxEvents gu _ _ k hkl v)
        · exact step_load rfl trivial _ _ _ rfl rfl (fun v hw => ldsEvents (hspot _ hw.1))
        · exact step_move rfl trivial _ rfl (by kernel_rfl)
        · exact step_move rfl trivial _ rfl (by kernel_rfl)
        · exact step_move rfl trivial _ rfl (by kernel_rfl)
        · exact step_indexAddr rfl trivial _ _ _ _ _ rfl rfl rfl (fun v hw => ixEvents gm 0 ll cm j hjl v)
        · exact step_load rfl trivial _ _ _ rfl rfl (fun v hw => ldEvents (FA.own hw.2.1) HY.out)
        · exact step_indexAddr rfl trivial _ _ _ _ _ rfl rfl rfl (fun v hw => ixEvents g 0 ll cx j hjl v)
      · intro o ho
        cases ho
        exact step_store rfl trivial rfl _ _ _ _ _ rfl rfl rfl (fun V hw => by obtain ⟨z2, q1, q2, _⟩ := hw.1.ks k _ hcl; rw [HXZ.out] at q1; obtain rfl := Option.some.inj q1; rw [hll] at q2; obtain ⟨V', r1, r2, r3⟩ := putEvents q2 hll.symm hjl (mEvents k j); refine ⟨V', r1, ?_, row_off hw.2.1 r3 (fun b e e2 => by obtain rfl := Option.some.inj e; simp only [Value.ownBlock, Option.some.injEq] at e2; exact hgmg e2), hw.2.2.grown r3 (fun q e => by obtain rfl := Option.some.inj e; exact .inl (Px.no HXZ.out rfl))⟩; have hk9 := hw.1.turn hTT hcl HXZ.out rfl (by rw [List.length_set, hll]; exact r2) (List.length_set ..) r3; rw [List.set_set, hst] at hk9; exact hk9)
      intro W hW
      first | refine hK _ _ ?_ | refine (‹∀ (a : Act) (w : World), Code.wp Tryz.prog _ _ a w → _›) _ _ ?_ | skip
      simp only [finL, List.getD_cons_zero, List.getD_cons_succ, Nat.zero_add, Nat.reduceAdd, List.setIfInBounds_toArray, List.set_cons_zero, List.set_cons_succ]
      clear hK
      go_wp2
      go_roundw
      case rel => exact ⟨j + 1, by simp, by omega, hW.1, hW.2.1, hW.2.2⟩
      case measure => simp [vnat]; omega
theorem bslEvents (W : World) (a : Option Addr) (n c : Nat) : (Instr.buildSlice 71 1 #[(0, .slice a n c)]).run Tryz.prog W = .ok (.slice (some ⟨W.heap.size, 0, none⟩) 1 1) (W.alloc (.cells #[.slice a n c] 56)) := by go_simp
set_option maxHeartbeats 8000000 in
set_option maxRecDepth 100000 in
theorem growEvents_any {base bb : Nat} {w : World} {u : Value} {C : Array Value} {x : List Value} {L : List (List tEvents)} (hB : Bb 78 w bb C) (hu : C[12]? = some u) (h : Kl cEvents 15 121 56 base w u x L) (hm : Mkd mEvents L) (hbz : base ≤ w.heap.size) : Calls Tryz.prog 83 #[.pointer (some ⟨bb, 0, none⟩)] w fun e w' => ∃ uo, e = .returned uo ∧ ∃ O, w'.ownsRow w.heap.size 56 1 uo L.length O ∧ Gkn mEvents cEvents 15 121 base w.heap.size x w' O ∧ Kl cEvents 15 121 56 base w' u x L ∧ Bx x w w' := by
  have hTT : (121 : TypeId) ≠ 56 := by decide
  obtain ⟨ic, zc, hic, hz0, hz1, hz2, hz3⟩ := kiEvents.iT
  obtain ⟨is, his, hs0, hs1, hs2⟩ := kiEvents.iS
  obtain ⟨au, cu, eu, _⟩ := rowForm h.row
  subst eu
  have hk4 := h.k
  have hxl : ∀ (i : Nat) (z' : Value) (b : Nat), x[i]? = some z' → z'.ownBlock = some b → b < w.heap.size := fun i z' b hz hb => (h.ltx hz hb).2
  have hul : ∀ b, (Value.slice au L.length cu).ownBlock = some b → b < w.heap.size := fun b hb => (row_lt h.row b hb).2
  have hpB := h.px hB (by decide)
  have m6 : ∀ (V : World), Bx x w V → V.cell? ⟨bb, 12, none⟩ = some (.slice au L.length cu) := fun V hV => by
    rw [cell_at ((hV.block _ (lt_at hB) hpB).trans hB), hu]
  obtain ⟨s0, hs⟩ : ∃ s0, w.heap.size = s0 := ⟨_, rfl⟩
  rw [hs] at hxl hul hbz ⊢
  have hs0w : s0 ≤ w.heap.size := by omega
  have hsw0 : w.heap.size ≤ s0 := by omega
  clear hs
  obtain ⟨NN, hN⟩ : ∃ N, N = L.length := ⟨_, rfl⟩
  rw [← hN] at m6 h hk4 hul ⊢
  have HN : Hid (NN = L.length) := hN
  clear hN hu
  go_enter Tryz.func83, Tryz.ntmps83
  go_wp2
  go_loopw [3, 4] (fun o i wz => ∃ (k : Nat) (O : List Value), i = .int .i64 (k : Int) ∧ k ≤ NN ∧ wz.ownsRow s0 56 1 o k O ∧ Gkn mEvents cEvents 15 121 base s0 x wz O ∧ Kl cEvents 15 121 56 base wz (.slice au NN cu) x L ∧ Bx x w wz ∧ s0 ≤ wz.heap.size) (fun _ i _ => NN - vnat i)
  case atStart => exact ⟨0, [], rfl, Nat.zero_le _, World.ownsRow_nil _ _ _ _, fun i z hz => (by cases hz), h, Bx.refl _ _, hs0w⟩
  case round =>
    obtain ⟨k, O, rfl, hk, hro, hgk, hK', hbw, hsw⟩ := hrel
    obtain ⟨ao, co, eo, _⟩ := rowForm hro
    subst eo
    have mm := m6 _ hbw
    have hOl : O.length = k := by have := hro.1; omega
    by_cases hkl : k < NN
    case neg =>
      have hki : ¬ (k : Int) < (NN : Int) := by omega
      obtain rfl : k = NN := by omega
      go_wp2
      go_ret
      exact ⟨_, rfl, O, hro, hgk, hK', hbw⟩
    have hki : (k : Int) < (NN : Int) := by omega
    obtain ⟨l, hl⟩ : ∃ l, L[k]? = some l := ⟨_, List.getElem?_eq_getElem (by rw [← HN.out]; exact hkl)⟩
    obtain ⟨gu, cu', z, e1, c1, hxz, hfl, hln⟩ := hK'.cell hl
    simp only [Value.slice.injEq] at e1
    obtain ⟨rfl, -, rfl⟩ := e1
    have hml := hm k l hl
    obtain ⟨N, hN⟩ : ∃ N, l.length = N := ⟨_, rfl⟩
    rw [hN] at hml hln hfl
    rw [hml] at hl hfl
    obtain ⟨adx, cx, rfl, -, -⟩ := own_rd hfl
    have hrel0 : (∃ g cap, Value.slice adx N cx = .slice (some ⟨g, 0, none⟩) N cap ∧ Value.slice adx N cx = .slice (some ⟨g, 0, none⟩) N cap) ∨ Value.slice adx N cx = .slice none 0 0 ∨ wr.ownsRow wr.heap.size 121 15 (.slice adx N cx) N (fc cEvents (mkL mEvents k 0 N)) := by
      rcases own_form hfl with ⟨q, _⟩ | ⟨g, cap, q, _⟩
      · exact .inr (.inl q)
      · exact .inl ⟨g, cap, q, q⟩
    have hGs : Gs mEvents cEvents 15 121 56 base s0 wr.heap.size N k (.slice (some ⟨gu, 0, none⟩) NN cu) (.slice adx N cx) (.slice ao k co) x O L w wr (.slice adx N cx) N := ⟨hfl, hrel0, hK', hgk, hro, hbw, Nat.le_refl _, Nat.le_refl _, hsw0⟩
    have hGc : Gc mEvents base s0 wr.heap.size N k (.slice (some ⟨gu, 0, none⟩) NN cu) (.slice adx N cx) (.slice ao k co) x O L := ⟨hl, hxz, hbz, hsw, hxl, hul, fun i z' b hz hb => (by
      obtain ⟨n, q1, _⟩ := hgk i z' hz
      exact (row_lt q1 b hb).2), fun b hb => (row_lt hro b hb).2, hOl⟩
    obtain ⟨sz, hsz⟩ : ∃ sz, wr.heap.size = sz := ⟨_, rfl⟩
    rw [hsz] at hGs hGc
    have hsz2 : s0 ≤ sz := by omega
    clear hrel0 hfl hgk hro hl hml hm hsz hK' hbw hsw hxz
    go_wp2
    clear mm c1
    go_loopw [5, 6] (fun a i wz => ∃ n : Nat, i = .int .i64 (n : Int) ∧ n ≤ 16 ∧ Gs mEvents cEvents 15 121 56 base s0 sz N k (.slice (some ⟨gu, 0, none⟩) NN cu) (.slice adx N cx) (.slice ao k co) x O L w wz a (N + n)) (fun _ i _ => 16 - vnat i)
    case atStart => exact ⟨0, rfl, by omega, hGs⟩
    case round =>
      clear hGs
      obtain ⟨n, rfl, hn, hG⟩ := hrel
      obtain ⟨aa, ca, ea, _⟩ := rowForm hG.row
      subst ea
      have hbz2 : base ≤ wr.heap.size := by have := hG.sz; omega
      by_cases hn16 : n < 16
      · have hni : (n : Int) < 16 := by omega
        obtain ⟨M, hM⟩ : ∃ M, N + n = M := ⟨_, rfl⟩
        have HM : Hid (N + n = M) := hM
        rw [hM] at hG ⊢
        have hM2 : M ≤ 1000016 := by omega
        clear hM
        have hmk : Calls Tryz.prog 162 #[.int .i64 (k : Int), .int .i64 (M : Int), .int .i64 1] wr (fun e w' => ∃ v, e = .returned v ∧ w'.ownsRow wr.heap.size 121 15 v 1 (fc cEvents (mkL mEvents k M 1)) ∧ Below wr.heap.size wr w') := markEvents_any k M 1 (by omega) (by omega) (by omega) wr
        go_wp2_with (first | (go_at_call 162; (with_reducible refine hmk.mono ?_); rintro e va ⟨vm, rfl, hrm, hba⟩; obtain ⟨gm, cm, em⟩ := rowSucc (n := 0) hrm; subst em; have hGa := hG.carry hba; have hsa := hba.size) | (at_builtin; refine wpList_append_two _ rfl _ _ 56 rfl base 121 ic _ 15 88 Tryz.underlying56 hic hz0 hz1 hz2 hz3 (by decide) _ M (fc cEvents (mkL mEvents k 0 M)) rfl hGa.row ⟨gm, 0, none⟩ 1 cm (fc cEvents (mkL mEvents k M 1)) rfl (by rw [fc_len hsEvents, mkL_len]) (FA.own hrm).src (fc_one h1Events _) (by omega) (by unfold maxLen; omega) (by omega) (by omega) ?_; intro v' w2 hown' htwo; have hG2 := hGa.app hsEvents hTT hGc hown' htwo))
        go_roundw
        case rel => exact ⟨n + 1, by simp, by omega, by have := HM.out; rw [show N + (n + 1) = M + 1 by omega]; exact hG2⟩
        case measure => simp [vnat]; omega
      · obtain rfl : n = 16 := by omega
        have hni : ¬ ((16 : Nat) : Int) < 16 := by omega
        obtain ⟨M, hM⟩ : ∃ M, N + 16 = M := ⟨_, rfl⟩
        rw [hM] at hG ⊢
        have hM2 : M ≤ 1000016 := by omega
        clear hM
        have hbs := bslEvents
        have hmk : Calls Tryz.prog 162 #[.int .i64 (k : Int), .int .i64 (M : Int), .int .i64 80] wr (fun e w' => ∃ v, e = .returned v ∧ w'.ownsRow wr.heap.size 121 15 v 80 (fc cEvents (mkL mEvents k M 80)) ∧ Below wr.heap.size wr w') := markEvents_any k M 80 (by omega) (by omega) (by omega) wr
        go_wp2_with (first | (go_at_call 162; (with_reducible refine hmk.mono ?_); rintro e va ⟨vm, rfl, hrm, hba⟩; obtain ⟨gm, cm, em⟩ := rowSucc (n := 79) hrm; subst em; have hGa := hG.carry hba; have hsa := hba.size) | (at_builtin; refine wpList_append_two _ rfl _ _ 56 rfl base 121 ic _ 15 88 Tryz.underlying56 hic hz0 hz1 hz2 hz3 (by decide) _ M (fc cEvents (mkL mEvents k 0 M)) rfl hGa.row ⟨gm, 0, none⟩ 80 cm (fc cEvents (mkL mEvents k M 80)) rfl (by rw [fc_len hsEvents, mkL_len]) (FA.own hrm).src (fc_one h1Events _) (by omega) (by unfold maxLen; omega) (by omega) (by omega) ?_; intro v' w2 hown' htwo; obtain ⟨a', c', e', _⟩ := rowForm hown'; subst e'; have hG2 := hGa.app hsEvents hTT hGc hown' htwo; have hz2' : sz ≤ w2.heap.size := hG2.sz; have hG3 := hG2.carry (al1 w2 (.cells #[.slice a' (M + 80) c'] 56))) | (at_builtin; refine wpList_append_own _ rfl _ _ 71 rfl s0 56 is _ 1 24 Tryz.underlying71 his hs0 hs1 hs2 rfl (by decide) _ k O rfl hG3.ro ⟨w2.heap.size, 0, none⟩ 1 1 [_] rfl rfl (newEvents _ #[_] _) (by simp [Value.oneCell']) (by unfold maxLen; omega) (by omega) (by simp; omega) ?_; intro v2 w4 hown4 hgrow4 _))
        go_roundw
        case rel =>
          have hty : ∀ {z' : Value} {n : Nat} {ys : List Value} {b : Nat}, (w2.alloc (.cells #[.slice a' (M + 80) c'] 56)).ownsRow base 121 15 z' n ys → (Value.slice ao k co).ownBlock = some b → z'.ownBlock ≠ some b := fun hr e e2 => by
            obtain ⟨_, c5, q5⟩ := rowBlk hr _ e2
            exact row_type hG3.ro q5 (by decide) e
          refine ⟨k + 1, O ++ [.slice a' (M + 80) c'], by simp, by omega, hown4, ?_, hG3.kn.off hgrow4 (fun b e e2 => ?_) (fun b e i z' hz e2 => ?_), hG3.bl.grown hgrow4 (fun q e => .inr (by have := (row_lt hG3.ro q e).1; omega)), by have := hgrow4.size; simp at this; omega⟩
          · intro i z' hz
            rcases Nat.lt_or_ge i k with q | q
            · rw [List.getElem?_append_left (by omega)] at hz
              refine (hG3.gk.off hgrow4 (fun b e i2 z2 hz2 => ?_)) i z' hz
              obtain ⟨n2, r2, _⟩ := hG3.gk i2 z2 hz2
              exact hty r2 e
            · have hik : i = k := by
                have := (List.getElem?_eq_some_iff.1 hz).1
                simp at this
                omega
              subst hik
              rw [List.getElem?_append_right (by omega), hOl, Nat.sub_self] at hz
              cases hz
              refine ⟨M + 80, row_off hG3.row hgrow4 (fun b e => hty hG3.row e), by omega, ?_⟩
              rcases hG3.rel with ⟨g, cap, q1, q2⟩ | q2 | q2
              · exact .inl ⟨_, hGc.xk, by rw [q1, q2]; rfl⟩
              · exact .inr (fun b e => by rw [q2] at e; cases e)
              · exact .inr (fun b e => by have := (row_lt q2 b e).1; omega)
          · have := hul b e2
            have := (row_lt hG3.ro b e).1
            omega
          · have := hxl i z' b hz e2
            have := (row_lt hG3.ro b e).1
            omega
        case measure => simp [vnat]; omega
theorem stcEvents {W : World} {bb n c : Nat} {a : Option Addr} {C : Array Value} {v0 : Value} (h : W.heap[bb]? = some (.cells C 78 (0, 0))) (hi : C[13]? = some v0) : (Instr.storeAt 71 (.pointer (some ⟨bb, 13, none⟩)) (.slice a n c)).run Tryz.prog W = .ok () (W.setCell ⟨bb, 13, none⟩ (.slice a n c)) := by
  have c0 : W.cell? ⟨bb, 13, none⟩ = some v0 := (cell_at h 13).trans hi
  have z0 := thaw_at h 13
  go_simp
set_option maxHeartbeats 4000000 in
set_option maxRecDepth 100000 in
theorem keepEvents_any {w : World} {base bb : Nat} {u v z : Value} {C : Array Value} {x y : List Value} {L : List (List tEvents)} {l : List tEvents} (hB : Bb 78 w bb C) (hu : C[12]? = some u) (hv : C[13]? = some v) (h : Kk cEvents 15 121 56 base w u v x y L) (hbz : base ≤ w.heap.size) (hz : w.ownsRow base 121 15 z l.length (fc cEvents l)) (hl : l.length ≤ 1000000) (hn : ∀ (i g : Nat) (z' : Value), x[i]? = some z' → z.ownBlock = some g → z'.ownBlock ≠ some g) : Calls Tryz.prog 48 #[.pointer (some ⟨bb, 0, none⟩), z] w fun e w' => e = .returned (.tuple #[]) ∧ Kept cEvents 15 121 56 78 12 base bb C u v z x w w' := by
  have hmx : Tryz.prog.follows .mixedOrders = true := by kernel_rfl
  obtain ⟨ic, hic, hz0, hz1, hz2⟩ := kiEvents.iS
  have h6 := h.kl.row
  have h7 := h.cr
  have hap := h.uv
  have hsz : 13 < C.size := (Array.getElem?_eq_some_iff.1 hv).1
  obtain ⟨k, hk⟩ : ∃ k, k = L.length := ⟨_, rfl⟩
  rw [← hk] at h6 h7
  have HK : Hid (k = L.length) := hk
  have hk400 : k ≤ 400 := by rw [hk]; exact h.kl.k
  clear hk
  obtain ⟨a6, c6, rfl, _⟩ := rowForm h6
  obtain ⟨a7, c7, rfl, _⟩ := rowForm h7
  obtain ⟨n, hnn⟩ : ∃ n, n = l.length := ⟨_, rfl⟩
  have HN : Hid (n = l.length) := hnn
  have hzz := hz
  rw [← hnn] at hzz
  clear hnn
  obtain ⟨ad, c, rfl, hrd0, hc⟩ := own_rd hzz
  have HU : Hid (C[12]? = some (.slice a6 k c6)) := hu
  have HV : Hid (C[13]? = some (.slice a7 k c7)) := hv
  have m6 : w.cell? ⟨bb, 12, none⟩ = some (.slice a6 k c6) := (cell_at hB 12).trans hu
  have HKK : Hid (Kk cEvents 15 121 56 base w (.slice a6 k c6) (.slice a7 k c7) x y L) := h
  have HNO : Hid (∀ (i g : Nat) (z' : Value), x[i]? = some z' → (Value.slice ad n c).ownBlock = some g → z'.ownBlock ≠ some g) := hn
  have HZ : Hid (w.ownsRow base 121 15 (.slice ad n c) n (fc cEvents l)) := hzz
  clear hu hv hn h hz hzz
  by_cases h4 : k < 400
  · have hki : (k : Int) < 400 := by omega
    have z6 := thaw_at hB 12
    have HKB : Hid (Bb 78 w bb C) := hB
    have hlb := lt_at hB
    obtain ⟨XX, hXX⟩ : ∃ XX, x ++ [Value.slice ad n c] = XX := ⟨_, rfl⟩
    have HXX : Hid (x ++ [Value.slice ad n c] = XX) := hXX
    have HRD : Hid (RdF w ad (fc cEvents l)) := hrd0
    clear hXX hB hrd0
    go_enter Tryz.func48, Tryz.ntmps48
    go_wp2_with (at_builtin; refine wpList_append_own_at _ rfl _ _ 71 rfl base 56 ic _ 1 24 Tryz.underlying71 hic hz0 hz1 hz2 rfl (by decide) _ _ _ rfl (h6.alloc _) ⟨w.heap.size, 0, none⟩ 1 1 [_] rfl rfl (newEvents _ #[_] _) (by simp [Value.oneCell']) (by unfold maxLen; omega) (by omega) (by simp; omega) ?_; intro v' w2 hown' hgrow _ hob; obtain ⟨g', cap', rfl⟩ := rowSucc hown'; have hkb2 : Bb 78 w2 bb C := (hgrow.block _ (by simp; omega) (fun e => bb_row HKB.out h6 (by decide) e.symm)).trans (old_at HKB.out); have m62 : w2.cell? ⟨bb, 12, none⟩ = some (.slice a6 k c6) := (cell_at hkb2 12).trans HU.out; have z62 := thaw_at hkb2 12)
    have hkb3 := heap_setCell_same _ _ 12 _ _ (.slice (some ⟨g', 0, none⟩) (k + 1) cap') hkb2
    rw [put2_v HV.out] at hkb3
    have hal1 := al1 w (.cells #[.slice ad n c] 56)
    have h72 : w2.ownsRow base 56 1 (.slice a7 k c7) k y := row_off (h7.alloc _) hgrow (fun b hb hb2 => hap b hb hb2)
    have hkp : Fk bb (.slice a6 k c6) (.slice a7 k c7) w (w2.setCell ⟨bb, 12, none⟩ (.slice (some ⟨g', 0, none⟩) (k + 1) cap')) := (((Fk.refl _ _ _ _).below hal1).grown hgrow (fun q e => .inr (.inl e))).set
    have habide : ∀ (q : Nat) (cur : Array Value), w.heap[q]? = some (.cells cur 121 (0, 0)) → (w2.setCell ⟨bb, 12, none⟩ (.slice (some ⟨g', 0, none⟩) (k + 1) cap')).heap[q]? = w.heap[q]? := fun q cur hq => hkp.block q (lt_at hq) (fun e => by
      subst e
      have := HKB.out.symm.trans hq
      simp only [Option.some.injEq, Obj.cells.injEq] at this
      exact absurd this.2.1 (by decide)) (row_type h6 hq (by decide)) (row_type h7 hq (by decide))
    have hrd : RdF (w2.setCell ⟨bb, 12, none⟩ (.slice (some ⟨g', 0, none⟩) (k + 1) cap')) ad (fc cEvents l) := by
      intro hne
      obtain ⟨b, off, e, hb, hat⟩ := HRD.out hne
      have hbk : (Value.slice ad n c).ownBlock = some b := by
        rcases own_form HZ.out with ⟨q, _⟩ | ⟨g, cap, q, _⟩
        · simp only [Value.slice.injEq] at q
          rw [q.1] at e
          cases e
        · simp only [Value.slice.injEq] at q
          rw [q.1] at e ⊢
          simp only [Option.some.injEq, Addr.mk.injEq] at e
          rw [← e.1]
          rfl
      obtain ⟨_, cur, ho⟩ := rowBlk HZ.out b hbk
      exact ⟨b, off, e, Nat.lt_of_lt_of_le hb hkp.size, hat.of (habide b cur ho)⟩
    have hlb7 : ∀ q, (Value.slice a7 k c7).ownBlock = some q → q < w.heap.size := fun q hq => (row_lt h7 q hq).2
    have hownX := hown'
    rw [HXX.out] at hownX
    have hj0 : JZ 121 56 78 15 12 base bb k n ad (fc cEvents l) XX y (.slice (some ⟨g', 0, none⟩) (k + 1) cap') (.slice a7 k c7) (.slice a6 k c6) C w (undef, 0, undef) false false false false (w2.setCell ⟨bb, 12, none⟩ (.slice (some ⟨g', 0, none⟩) (k + 1) cap')) := ⟨hkb3, row_set hownX (bb_row hkb2 hownX (by decide)) _, row_set h72 (bb_row hkb2 h72 (by decide)) _, fun q hq hq2 => (by
      rcases hob with e | e
      · exact hap q (e.symm.trans hq) hq2
      · have h8 := hlb7 q hq2
        rw [e] at hq
        simp at hq
        omega), (fun e => by cases e), (fun e => by cases e), (fun e => by cases e), fun _ => hrd, hkp, by have := hkp.size; omega⟩
    have HL : Hid (l.length ≤ 1000000) := hl
    have HC : Hid (ad = none → c = 0) := hc
    clear hkb2 hkb3 h72 hrd hown' hgrow hob m6 z6 m62 z62 h6 h7 hap hkp habide hl hc
    refine wp_region_any hmx ?_
    refine wpAny_tabG (G := (Value × Nat × Value)) (fun g i__ => ([(.pointer (some ⟨bb, 0, none⟩)), (.pointer (some ⟨bb, 0, none⟩)), (.pointer (some ⟨bb, 0, none⟩)), (.pointer (some ⟨bb, 13, none⟩)), (.slice a7 k c7), (.slice ad n c), g.1, (.slice (some ⟨g.2.1, 0, none⟩) 1 1), g.2.2, (.pointer (some ⟨bb, 0, none⟩)), (.pointer (some ⟨bb, 13, none⟩)), undef] : List Value).getD i__ undef) (fun g d W => JZ 121 56 78 15 12 base bb k n ad (fc cEvents l) XX y (.slice (some ⟨g', 0, none⟩) (k + 1) cap') (.slice a7 k c7) (.slice a6 k c6) C w g (d 6) (d 7) (d 8) (d 11) W) (by kernel_rfl) ((undef, 0, undef)) (show JZ 121 56 78 15 12 base bb k n ad (fc cEvents l) XX y (.slice (some ⟨g', 0, none⟩) (k + 1) cap') (.slice a7 k c7) (.slice a6 k c6) C w (undef, 0, undef) false false false false _ from ⟨hj0.kb, hj0.r6, hj0.r7, hj0.ap, hj0.cp, hj0.bl, hj0.fm, hj0.rd, hj0.kp.below (Below.refl _ _).drew, hj0.bz⟩) ?step35 ?fin35
    case step35 =>
      intro i o ho
      have hi : i < 12 := getElem?_lt ho
      match i, hi, ho with
      | 0, _, ho =>
        cases ho
        refine stepG_of (fun g d hdep => ?_)
        exact step_move rfl trivial _ rfl (by kernel_rfl)
      | 1, _, ho =>
        cases ho
        refine stepG_of (fun g d hdep => ?_)
        exact step_move rfl trivial _ rfl (by kernel_rfl)
      | 2, _, ho =>
        cases ho
        refine stepG_of (fun g d hdep => ?_)
        exact step_nilCheck rfl trivial _ _ _ rfl rfl rfl
      | 3, _, ho =>
        cases ho
        refine stepG_of (fun g d hdep => ?_)
        exact step_fieldAddr rfl trivial _ _ _ _ rfl rfl (fun w hw => flcEvents w _)
      | 4, _, ho =>
        cases ho
        exact stepG_ofC (fun g d hun hdep hcl => step_load rfl trivial _ _ _ rfl rfl (fun w hw => lddEvents (by have h11 : d 11 = false := (by cases h : d 11 with | false => rfl | true => exact absurd (hcl 11 _ rfl h 4 (by kernel_rfl)) (by rw [hun]; simp)); have := hw.kb; rw [h11] at this; exact (cell_at this 13).trans (put2_1 hsz _ _))))
      | 5, _, ho =>
        cases ho
        refine stepG_of (fun g d hdep => ?_)
        exact step_move rfl trivial _ rfl (by kernel_rfl)
      | 6, _, ho =>
        cases ho
        exact stepG_append rfl rfl _ _ _ (fun _ => .slice none 0 0) (fun _ => .slice ad n c) rfl (fun g => by kernel_rfl) (fun g => by kernel_rfl) (fun g d W hJ hun hdep hcl => by have h7 : d 7 = false := (by cases h : d 7 with | false => rfl | true => exact absurd (hcl 7 _ rfl h 6 (by kernel_rfl)) (by rw [hun]; simp)); have hJ' := hJ; rw [hun, h7] at hJ'; have hcp := cp_any kiEvents hsEvents h1Events (cc := c) 56 (hJ'.rd rfl) HL.out HC.out; rw [← HN.out] at hcp; obtain ⟨v', W', hr, hv, hro, hb⟩ := hcp; refine ⟨(v', g.2), W', hr, (fun j hj => match j, hj with | 6, hj => (by rw [hj] at hun; cases hun)  | 0, _ => rfl | 1, _ => rfl | 2, _ => rfl | 3, _ => rfl | 4, _ => rfl | 5, _ => rfl | 7, _ => rfl | 8, _ => rfl | 9, _ => rfl | 10, _ => rfl | 11, _ => rfl | _ + 12, _ => rfl), ?_⟩; have h8 : d 8 = false := (by cases h : d 8 with | false => rfl | true => exact absurd (hcl 8 _ rfl h 6 (by kernel_rfl)) (by rw [hun]; simp)); show JZ 121 56 78 15 12 base bb k n ad (fc cEvents l) XX y _ _ _ C w _ true (d 7) (d 8) (d 11) W'; rw [h7, h8]; rw [h8] at hJ'; exact hJ'.copy hb hv hro)
      | 7, _, ho =>
        cases ho
        exact stepG_buildG rfl rfl _ _ (fun g => g.1) rfl (fun g => by kernel_rfl) (fun g d W hJ hun hdep hcl => by have h6 : d 6 = true := hdep 6 (by kernel_rfl); have hJ' := hJ; rw [h6] at hJ'; obtain ⟨⟨a', c', e1⟩, _⟩ := hJ'.cp rfl; refine ⟨(g.1, W.heap.size, g.2.2), W.alloc (.cells #[g.1] 56), (by rw [e1]; exact bslEvents _ _ _ _), (fun j hj => match j, hj with | 7, hj => (by rw [hj] at hun; cases hun)  | 0, _ => rfl | 1, _ => rfl | 2, _ => rfl | 3, _ => rfl | 4, _ => rfl | 5, _ => rfl | 6, _ => rfl | 8, _ => rfl | 9, _ => rfl | 10, _ => rfl | 11, _ => rfl | _ + 12, _ => rfl), ?_⟩; show JZ 121 56 78 15 12 base bb k n ad (fc cEvents l) XX y _ _ _ C w _ (d 6) true (d 8) (d 11) _; rw [h6]; exact hJ'.build)
      | 8, _, ho =>
        cases ho
        exact stepG_append rfl rfl _ _ _ (fun _ => .slice a7 k c7) (fun g => .slice (some ⟨g.2.1, 0, none⟩) 1 1) rfl (fun g => by kernel_rfl) (fun g => by kernel_rfl) (fun g d W hJ hun hdep hcl => by have h7 : d 7 = true := hdep 7 (by kernel_rfl); have h6 : d 6 = true := hdep 6 (by kernel_rfl); have h11 : d 11 = false := (by cases h : d 11 with | false => rfl | true => exact absurd (hcl 11 _ rfl h 8 (by kernel_rfl)) (by rw [hun]; simp)); have hJ' := hJ; rw [h6, h7, hun, h11] at hJ'; obtain ⟨x, V, hr, hA⟩ := hJ'.app kiEvents h4 71; refine ⟨(g.1, g.2.1, x), V, hr, (fun j hj => match j, hj with | 8, hj => (by rw [hj] at hun; cases hun)  | 0, _ => rfl | 1, _ => rfl | 2, _ => rfl | 3, _ => rfl | 4, _ => rfl | 5, _ => rfl | 6, _ => rfl | 7, _ => rfl | 9, _ => rfl | 10, _ => rfl | 11, _ => rfl | _ + 12, _ => rfl), ?_⟩; show JZ 121 56 78 15 12 base bb k n ad (fc cEvents l) XX y _ _ _ C w _ (d 6) (d 7) true (d 11) V; rw [h6, h7, h11]; exact hA)
      | 9, _, ho =>
        cases ho
        refine stepG_of (fun g d hdep => ?_)
        exact step_nilCheck rfl trivial _ _ _ rfl rfl rfl
      | 10, _, ho =>
        cases ho
        refine stepG_of (fun g d hdep => ?_)
        exact step_fieldAddr rfl trivial _ _ _ _ rfl rfl (fun w hw => flcEvents w _)
      | 11, _, ho =>
        cases ho
        refine stepG_of (fun g d hdep => ?_)
        exact step_store rfl trivial rfl _ _ _ _ _ rfl rfl rfl (fun W hw => by have h6 : d 6 = true := hdep 6 (by kernel_rfl); have h7 : d 7 = true := hdep 7 (by kernel_rfl); have h8 : d 8 = true := hdep 8 (by kernel_rfl); have hw' := hw; rw [h6, h7, h8] at hw'; obtain ⟨V, hr, hA⟩ := hw'.store kiEvents (fun a n c => stcEvents hw'.kb (put2_1 hsz _ _)); refine ⟨V, hr, ?_⟩; show JZ 121 56 78 15 12 base bb k n ad (fc cEvents l) XX y _ _ _ C w _ (d 6) (d 7) (d 8) true V; rw [h6, h7, h8]; exact hA)
    intro g d W hall hW
    first | refine hK _ _ ?_ | refine (‹∀ (a : Act) (w : World), Code.wp Tryz.prog _ _ a w → _›) _ _ ?_ | skip
    simp only [finL, List.getD_cons_zero, List.getD_cons_succ, Nat.zero_add, Nat.reduceAdd, List.setIfInBounds_toArray, List.set_cons_zero, List.set_cons_succ]
    rw [hall 6 (by decide), hall 7 (by decide), hall 8 (by decide), hall 11 (by decide)] at hW
    have HJ : Hid (JZ 121 56 78 15 12 base bb k n ad (fc cEvents l) XX y (.slice (some ⟨g', 0, none⟩) (k + 1) cap') (.slice a7 k c7) (.slice a6 k c6) C w g true true true true W) := hW
    clear hW hall hj0 hownX
    go_wp2
    go_end0
    have hW := HJ.out
    have h6 := HKK.out.kl.row
    have h7 := HKK.out.cr
    rw [← HK.out] at h6 h7
    have hab : ∀ (q : Nat) (cur : Array Value), w.heap[q]? = some (.cells cur 121 (0, 0)) → W.heap[q]? = w.heap[q]? := fun q cur hq => hW.kp.block q (lt_at hq) (fun e => by
      subst e
      have := HKB.out.symm.trans hq
      simp only [Option.some.injEq, Obj.cells.injEq] at this
      exact absurd this.2.1 (by decide)) (row_type h6 hq (by decide)) (row_type h7 hq (by decide))
    have e6 := hW.r6
    have e7 := hW.r7
    simp only [if_true] at e7
    rw [← HXX.out, HK.out] at e6
    rw [HK.out] at e7
    have hnz := HZ.out
    have hcz := (hW.cp rfl).2
    rw [HN.out] at hnz hcz e6
    refine ⟨rfl, _, g.2.2, x ++ [.slice ad l.length c], y ++ [g.1], L ++ [l], hW.kb, HKK.out.app (V := W) hab (row_at hnz (fun q hq => ?_)) (row_base hcz hbz) HL.out (by rw [← HK.out]; exact h4) (by rw [← HN.out]; exact HNO.out) (by rw [HK.out]; exact e6) e7 hW.ap, hW.kp, fun i z' hz' => ?_⟩
    · obtain ⟨_, cur, ho⟩ := rowBlk hnz q hq
      exact hab q cur ho
    · rcases get_snoc _ _ _ _ hz' with ⟨_, q2⟩ | ⟨_, q2⟩
      · exact .inr ⟨i, q2⟩
      · exact .inl (by rw [q2, HN.out])
  · have hki : ¬ (k : Int) < 400 := by omega
    have HBB : Hid (Bb 78 w bb C) := hB
    clear h6 h7 hB hrd0 hap
    go_enter Tryz.func48, Tryz.ntmps48
    go_wp2
    go_end0
    refine ⟨rfl, _, _, x, y, L, ?_, HKK.out, Fk.refl _ _ _ _, fun i z' hz' => .inr ⟨i, hz'⟩⟩
    have e2 : put2 C 12 (.slice a6 k c6) (.slice a7 k c7) = C := by
      rw [← put2_v HV.out]
      refine Array.ext_getElem? fun j => ?_
      by_cases e : j = 12
      · subst e
        rw [Array.getElem?_setIfInBounds_self_of_lt (by omega), HU.out]
      · rw [Array.getElem?_setIfInBounds_ne (fun h => e h.symm)]
    rw [e2]
    exact HBB.out
end Go.Proofs.YtklnfbanfgdgcaaGreatDoor.Kel
namespace Go.Proofs.YtklnfbanfgdgcaaGreatDoor.Kel
open Go.RowKit Go.Shelf Go.Lib

section
variable {W : World} {bb : Nat}
set_option maxHeartbeats 1000000 in
theorem stillInts_e (h : W.cell? ⟨bb, 0, none⟩ = some (.slice none 0 0)) : Calls Tryz.prog 53 #[.pointer (some ⟨bb, 0, none⟩)] W fun e w' => e = .returned (.bool true) ∧ w' = W := by
  go_enter Tryz.func53, Tryz.ntmps53
  go_wp2
  go_loopw [3] (fun i wz => i = .int .i64 0 ∧ wz = W) (fun _ _ => 0)
  case atStart => exact ⟨rfl, rfl⟩
  case round =>
    obtain ⟨rfl, rfl⟩ := hrel
    go_wp2
    go_ret
    exact ⟨rfl, rfl⟩
set_option maxHeartbeats 1000000 in
theorem putInts_e (h : W.cell? ⟨bb, 0, none⟩ = some (.slice none 0 0)) : Calls Tryz.prog 65 #[.pointer (some ⟨bb, 0, none⟩)] W fun e w' => e = .returned (.tuple #[]) ∧ w' = W := by
  go_enter Tryz.func65, Tryz.ntmps65
  go_wp2
  go_loopw [2] (fun i wz => i = .int .i64 0 ∧ wz = W) (fun _ _ => 0)
  case atStart => exact ⟨rfl, rfl⟩
  case round =>
    obtain ⟨rfl, rfl⟩ := hrel
    go_wp2
    go_end0
    exact ⟨rfl, rfl⟩
set_option maxHeartbeats 1000000 in
theorem growInts_e (h : W.cell? ⟨bb, 0, none⟩ = some (.slice none 0 0)) : Calls Tryz.prog 77 #[.pointer (some ⟨bb, 0, none⟩)] W fun e w' => e = .returned (.slice none 0 0) ∧ w' = W := by
  go_enter Tryz.func77, Tryz.ntmps77
  go_wp2
  go_loopw [3, 4] (fun o i wz => o = .slice none 0 0 ∧ i = .int .i64 0 ∧ wz = W) (fun _ _ _ => 0)
  case atStart => exact ⟨rfl, rfl, rfl⟩
  case round =>
    obtain ⟨rfl, rfl, rfl⟩ := hrel
    go_wp2
    go_ret
    exact ⟨rfl, rfl⟩
set_option maxHeartbeats 1000000 in
theorem markedInts_e (W : World) : Calls Tryz.prog 89 #[.slice none 0 0] W fun e w' => e = .returned (.bool true) ∧ w' = W := by
  go_enter Tryz.func89, Tryz.ntmps89
  go_wp2
  go_loopw [3] (fun i wz => i = .int .i64 0 ∧ wz = W) (fun _ _ => 0)
  case atStart => exact ⟨rfl, rfl⟩
  case round =>
    obtain ⟨rfl, rfl⟩ := hrel
    go_wp2
    go_ret
    exact ⟨rfl, rfl⟩
set_option maxHeartbeats 1000000 in
theorem stillChars_e (h : W.cell? ⟨bb, 2, none⟩ = some (.slice none 0 0)) : Calls Tryz.prog 54 #[.pointer (some ⟨bb, 0, none⟩)] W fun e w' => e = .returned (.bool true) ∧ w' = W := by
  go_enter Tryz.func54, Tryz.ntmps54
  go_wp2
  go_loopw [3] (fun i wz => i = .int .i64 0 ∧ wz = W) (fun _ _ => 0)
  case atStart => exact ⟨rfl, rfl⟩
  case round =>
    obtain ⟨rfl, rfl⟩ := hrel
    go_wp2
    go_ret
    exact ⟨rfl, rfl⟩
set_option maxHeartbeats 1000000 in
theorem putChars_e (h : W.cell? ⟨bb, 2, none⟩ = some (.slice none 0 0)) : Calls Tryz.prog 66 #[.pointer (some ⟨bb, 0, none⟩)] W fun e w' => e = .returned (.tuple #[]) ∧ w' = W := by
  go_enter Tryz.func66, Tryz.ntmps66
  go_wp2
  go_loopw [2] (fun i wz => i = .int .i64 0 ∧ wz = W) (fun _ _ => 0)
  case atStart => exact ⟨rfl, rfl⟩
  case round =>
    obtain ⟨rfl, rfl⟩ := hrel
    go_wp2
    go_end0
    exact ⟨rfl, rfl⟩
set_option maxHeartbeats 1000000 in
theorem growChars_e (h : W.cell? ⟨bb, 2, none⟩ = some (.slice none 0 0)) : Calls Tryz.prog 78 #[.pointer (some ⟨bb, 0, none⟩)] W fun e w' => e = .returned (.slice none 0 0) ∧ w' = W := by
  go_enter Tryz.func78, Tryz.ntmps78
  go_wp2
  go_loopw [3, 4] (fun o i wz => o = .slice none 0 0 ∧ i = .int .i64 0 ∧ wz = W) (fun _ _ _ => 0)
  case atStart => exact ⟨rfl, rfl, rfl⟩
  case round =>
    obtain ⟨rfl, rfl, rfl⟩ := hrel
    go_wp2
    go_ret
    exact ⟨rfl, rfl⟩
set_option maxHeartbeats 1000000 in
theorem markedChars_e (W : World) : Calls Tryz.prog 90 #[.slice none 0 0] W fun e w' => e = .returned (.bool true) ∧ w' = W := by
  go_enter Tryz.func90, Tryz.ntmps90
  go_wp2
  go_loopw [3] (fun i wz => i = .int .i64 0 ∧ wz = W) (fun _ _ => 0)
  case atStart => exact ⟨rfl, rfl⟩
  case round =>
    obtain ⟨rfl, rfl⟩ := hrel
    go_wp2
    go_ret
    exact ⟨rfl, rfl⟩
set_option maxHeartbeats 1000000 in
theorem stillTokens_e (h : W.cell? ⟨bb, 4, none⟩ = some (.slice none 0 0)) : Calls Tryz.prog 55 #[.pointer (some ⟨bb, 0, none⟩)] W fun e w' => e = .returned (.bool true) ∧ w' = W := by
  go_enter Tryz.func55, Tryz.ntmps55
  go_wp2
  go_loopw [3] (fun i wz => i = .int .i64 0 ∧ wz = W) (fun _ _ => 0)
  case atStart => exact ⟨rfl, rfl⟩
  case round =>
    obtain ⟨rfl, rfl⟩ := hrel
    go_wp2
    go_ret
    exact ⟨rfl, rfl⟩
set_option maxHeartbeats 1000000 in
theorem putTokens_e (h : W.cell? ⟨bb, 4, none⟩ = some (.slice none 0 0)) : Calls Tryz.prog 67 #[.pointer (some ⟨bb, 0, none⟩)] W fun e w' => e = .returned (.tuple #[]) ∧ w' = W := by
  go_enter Tryz.func67, Tryz.ntmps67
  go_wp2
  go_loopw [2] (fun i wz => i = .int .i64 0 ∧ wz = W) (fun _ _ => 0)
  case atStart => exact ⟨rfl, rfl⟩
  case round =>
    obtain ⟨rfl, rfl⟩ := hrel
    go_wp2
    go_end0
    exact ⟨rfl, rfl⟩
set_option maxHeartbeats 1000000 in
theorem growTokens_e (h : W.cell? ⟨bb, 4, none⟩ = some (.slice none 0 0)) : Calls Tryz.prog 79 #[.pointer (some ⟨bb, 0, none⟩)] W fun e w' => e = .returned (.slice none 0 0) ∧ w' = W := by
  go_enter Tryz.func79, Tryz.ntmps79
  go_wp2
  go_loopw [3, 4] (fun o i wz => o = .slice none 0 0 ∧ i = .int .i64 0 ∧ wz = W) (fun _ _ _ => 0)
  case atStart => exact ⟨rfl, rfl, rfl⟩
  case round =>
    obtain ⟨rfl, rfl, rfl⟩ := hrel
    go_wp2
    go_ret
    exact ⟨rfl, rfl⟩
set_option maxHeartbeats 1000000 in
theorem markedTokens_e (W : World) : Calls Tryz.prog 91 #[.slice none 0 0] W fun e w' => e = .returned (.bool true) ∧ w' = W := by
  go_enter Tryz.func91, Tryz.ntmps91
  go_wp2
  go_loopw [3] (fun i wz => i = .int .i64 0 ∧ wz = W) (fun _ _ => 0)
  case atStart => exact ⟨rfl, rfl⟩
  case round =>
    obtain ⟨rfl, rfl⟩ := hrel
    go_wp2
    go_ret
    exact ⟨rfl, rfl⟩
set_option maxHeartbeats 1000000 in
theorem stillBytes_e (h : W.cell? ⟨bb, 8, none⟩ = some (.slice none 0 0)) : Calls Tryz.prog 57 #[.pointer (some ⟨bb, 0, none⟩)] W fun e w' => e = .returned (.bool true) ∧ w' = W := by
  go_enter Tryz.func57, Tryz.ntmps57
  go_wp2
  go_loopw [3] (fun i wz => i = .int .i64 0 ∧ wz = W) (fun _ _ => 0)
  case atStart => exact ⟨rfl, rfl⟩
  case round =>
    obtain ⟨rfl, rfl⟩ := hrel
    go_wp2
    go_ret
    exact ⟨rfl, rfl⟩
set_option maxHeartbeats 1000000 in
theorem putBytes_e (h : W.cell? ⟨bb, 8, none⟩ = some (.slice none 0 0)) : Calls Tryz.prog 69 #[.pointer (some ⟨bb, 0, none⟩)] W fun e w' => e = .returned (.tuple #[]) ∧ w' = W := by
  go_enter Tryz.func69, Tryz.ntmps69
  go_wp2
  go_loopw [2] (fun i wz => i = .int .i64 0 ∧ wz = W) (fun _ _ => 0)
  case atStart => exact ⟨rfl, rfl⟩
  case round =>
    obtain ⟨rfl, rfl⟩ := hrel
    go_wp2
    go_end0
    exact ⟨rfl, rfl⟩
set_option maxHeartbeats 1000000 in
theorem growBytes_e (h : W.cell? ⟨bb, 8, none⟩ = some (.slice none 0 0)) : Calls Tryz.prog 81 #[.pointer (some ⟨bb, 0, none⟩)] W fun e w' => e = .returned (.slice none 0 0) ∧ w' = W := by
  go_enter Tryz.func81, Tryz.ntmps81
  go_wp2
  go_loopw [3, 4] (fun o i wz => o = .slice none 0 0 ∧ i = .int .i64 0 ∧ wz = W) (fun _ _ _ => 0)
  case atStart => exact ⟨rfl, rfl, rfl⟩
  case round =>
    obtain ⟨rfl, rfl, rfl⟩ := hrel
    go_wp2
    go_ret
    exact ⟨rfl, rfl⟩
set_option maxHeartbeats 1000000 in
theorem markedBytes_e (W : World) : Calls Tryz.prog 93 #[.slice none 0 0] W fun e w' => e = .returned (.bool true) ∧ w' = W := by
  go_enter Tryz.func93, Tryz.ntmps93
  go_wp2
  go_loopw [3] (fun i wz => i = .int .i64 0 ∧ wz = W) (fun _ _ => 0)
  case atStart => exact ⟨rfl, rfl⟩
  case round =>
    obtain ⟨rfl, rfl⟩ := hrel
    go_wp2
    go_ret
    exact ⟨rfl, rfl⟩
set_option maxHeartbeats 1000000 in
theorem stillSets_e (h : W.cell? ⟨bb, 10, none⟩ = some (.slice none 0 0)) : Calls Tryz.prog 58 #[.pointer (some ⟨bb, 0, none⟩)] W fun e w' => e = .returned (.bool true) ∧ w' = W := by
  go_enter Tryz.func58, Tryz.ntmps58
  go_wp2
  go_loopw [3] (fun i wz => i = .int .i64 0 ∧ wz = W) (fun _ _ => 0)
  case atStart => exact ⟨rfl, rfl⟩
  case round =>
    obtain ⟨rfl, rfl⟩ := hrel
    go_wp2
    go_ret
    exact ⟨rfl, rfl⟩
set_option maxHeartbeats 1000000 in
theorem putSets_e (h : W.cell? ⟨bb, 10, none⟩ = some (.slice none 0 0)) : Calls Tryz.prog 70 #[.pointer (some ⟨bb, 0, none⟩)] W fun e w' => e = .returned (.tuple #[]) ∧ w' = W := by
  go_enter Tryz.func70, Tryz.ntmps70
  go_wp2
  go_loopw [2] (fun i wz => i = .int .i64 0 ∧ wz = W) (fun _ _ => 0)
  case atStart => exact ⟨rfl, rfl⟩
  case round =>
    obtain ⟨rfl, rfl⟩ := hrel
    go_wp2
    go_end0
    exact ⟨rfl, rfl⟩
set_option maxHeartbeats 1000000 in
theorem growSets_e (h : W.cell? ⟨bb, 10, none⟩ = some (.slice none 0 0)) : Calls Tryz.prog 82 #[.pointer (some ⟨bb, 0, none⟩)] W fun e w' => e = .returned (.slice none 0 0) ∧ w' = W := by
  go_enter Tryz.func82, Tryz.ntmps82
  go_wp2
  go_loopw [3, 4] (fun o i wz => o = .slice none 0 0 ∧ i = .int .i64 0 ∧ wz = W) (fun _ _ _ => 0)
  case atStart => exact ⟨rfl, rfl, rfl⟩
  case round =>
    obtain ⟨rfl, rfl, rfl⟩ := hrel
    go_wp2
    go_ret
    exact ⟨rfl, rfl⟩
set_option maxHeartbeats 1000000 in
theorem markedSets_e (W : World) : Calls Tryz.prog 94 #[.slice none 0 0] W fun e w' => e = .returned (.bool true) ∧ w' = W := by
  go_enter Tryz.func94, Tryz.ntmps94
  go_wp2
  go_loopw [3] (fun i wz => i = .int .i64 0 ∧ wz = W) (fun _ _ => 0)
  case atStart => exact ⟨rfl, rfl⟩
  case round =>
    obtain ⟨rfl, rfl⟩ := hrel
    go_wp2
    go_ret
    exact ⟨rfl, rfl⟩
set_option maxHeartbeats 1000000 in
theorem stillErrs_e (h : W.cell? ⟨bb, 14, none⟩ = some (.slice none 0 0)) : Calls Tryz.prog 60 #[.pointer (some ⟨bb, 0, none⟩)] W fun e w' => e = .returned (.bool true) ∧ w' = W := by
  go_enter Tryz.func60, Tryz.ntmps60
  go_wp2
  go_loopw [3] (fun i wz => i = .int .i64 0 ∧ wz = W) (fun _ _ => 0)
  case atStart => exact ⟨rfl, rfl⟩
  case round =>
    obtain ⟨rfl, rfl⟩ := hrel
    go_wp2
    go_ret
    exact ⟨rfl, rfl⟩
set_option maxHeartbeats 1000000 in
theorem putErrs_e (h : W.cell? ⟨bb, 14, none⟩ = some (.slice none 0 0)) : Calls Tryz.prog 72 #[.pointer (some ⟨bb, 0, none⟩)] W fun e w' => e = .returned (.tuple #[]) ∧ w' = W := by
  go_enter Tryz.func72, Tryz.ntmps72
  go_wp2
  go_loopw [2] (fun i wz => i = .int .i64 0 ∧ wz = W) (fun _ _ => 0)
  case atStart => exact ⟨rfl, rfl⟩
  case round =>
    obtain ⟨rfl, rfl⟩ := hrel
    go_wp2
    go_end0
    exact ⟨rfl, rfl⟩
set_option maxHeartbeats 1000000 in
theorem growErrs_e (h : W.cell? ⟨bb, 14, none⟩ = some (.slice none 0 0)) : Calls Tryz.prog 84 #[.pointer (some ⟨bb, 0, none⟩)] W fun e w' => e = .returned (.slice none 0 0) ∧ w' = W := by
  go_enter Tryz.func84, Tryz.ntmps84
  go_wp2
  go_loopw [3, 4] (fun o i wz => o = .slice none 0 0 ∧ i = .int .i64 0 ∧ wz = W) (fun _ _ _ => 0)
  case atStart => exact ⟨rfl, rfl, rfl⟩
  case round =>
    obtain ⟨rfl, rfl, rfl⟩ := hrel
    go_wp2
    go_ret
    exact ⟨rfl, rfl⟩
set_option maxHeartbeats 1000000 in
theorem markedErrs_e (W : World) : Calls Tryz.prog 96 #[.slice none 0 0] W fun e w' => e = .returned (.bool true) ∧ w' = W := by
  go_enter Tryz.func96, Tryz.ntmps96
  go_wp2
  go_loopw [3] (fun i wz => i = .int .i64 0 ∧ wz = W) (fun _ _ => 0)
  case atStart => exact ⟨rfl, rfl⟩
  case round =>
    obtain ⟨rfl, rfl⟩ := hrel
    go_wp2
    go_ret
    exact ⟨rfl, rfl⟩
set_option maxHeartbeats 1000000 in
theorem stillOuts_e (h : W.cell? ⟨bb, 16, none⟩ = some (.slice none 0 0)) : Calls Tryz.prog 61 #[.pointer (some ⟨bb, 0, none⟩)] W fun e w' => e = .returned (.bool true) ∧ w' = W := by
  go_enter Tryz.func61, Tryz.ntmps61
  go_wp2
  go_loopw [3] (fun i wz => i = .int .i64 0 ∧ wz = W) (fun _ _ => 0)
  case atStart => exact ⟨rfl, rfl⟩
  case round =>
    obtain ⟨rfl, rfl⟩ := hrel
    go_wp2
    go_ret
    exact ⟨rfl, rfl⟩
set_option maxHeartbeats 1000000 in
theorem putOuts_e (h : W.cell? ⟨bb, 16, none⟩ = some (.slice none 0 0)) : Calls Tryz.prog 73 #[.pointer (some ⟨bb, 0, none⟩)] W fun e w' => e = .returned (.tuple #[]) ∧ w' = W := by
  go_enter Tryz.func73, Tryz.ntmps73
  go_wp2
  go_loopw [2] (fun i wz => i = .int .i64 0 ∧ wz = W) (fun _ _ => 0)
  case atStart => exact ⟨rfl, rfl⟩
  case round =>
    obtain ⟨rfl, rfl⟩ := hrel
    go_wp2
    go_end0
    exact ⟨rfl, rfl⟩
set_option maxHeartbeats 1000000 in
theorem growOuts_e (h : W.cell? ⟨bb, 16, none⟩ = some (.slice none 0 0)) : Calls Tryz.prog 85 #[.pointer (some ⟨bb, 0, none⟩)] W fun e w' => e = .returned (.slice none 0 0) ∧ w' = W := by
  go_enter Tryz.func85, Tryz.ntmps85
  go_wp2
  go_loopw [3, 4] (fun o i wz => o = .slice none 0 0 ∧ i = .int .i64 0 ∧ wz = W) (fun _ _ _ => 0)
  case atStart => exact ⟨rfl, rfl, rfl⟩
  case round =>
    obtain ⟨rfl, rfl, rfl⟩ := hrel
    go_wp2
    go_ret
    exact ⟨rfl, rfl⟩
set_option maxHeartbeats 1000000 in
theorem markedOuts_e (W : World) : Calls Tryz.prog 97 #[.slice none 0 0] W fun e w' => e = .returned (.bool true) ∧ w' = W := by
  go_enter Tryz.func97, Tryz.ntmps97
  go_wp2
  go_loopw [3] (fun i wz => i = .int .i64 0 ∧ wz = W) (fun _ _ => 0)
  case atStart => exact ⟨rfl, rfl⟩
  case round =>
    obtain ⟨rfl, rfl⟩ := hrel
    go_wp2
    go_ret
    exact ⟨rfl, rfl⟩
set_option maxHeartbeats 1000000 in
theorem stillGrams_e (h : W.cell? ⟨bb, 18, none⟩ = some (.slice none 0 0)) : Calls Tryz.prog 62 #[.pointer (some ⟨bb, 0, none⟩)] W fun e w' => e = .returned (.bool true) ∧ w' = W := by
  go_enter Tryz.func62, Tryz.ntmps62
  go_wp2
  go_loopw [3] (fun i wz => i = .int .i64 0 ∧ wz = W) (fun _ _ => 0)
  case atStart => exact ⟨rfl, rfl⟩
  case round =>
    obtain ⟨rfl, rfl⟩ := hrel
    go_wp2
    go_ret
    exact ⟨rfl, rfl⟩
set_option maxHeartbeats 1000000 in
theorem putGrams_e (h : W.cell? ⟨bb, 18, none⟩ = some (.slice none 0 0)) : Calls Tryz.prog 74 #[.pointer (some ⟨bb, 0, none⟩)] W fun e w' => e = .returned (.tuple #[]) ∧ w' = W := by
  go_enter Tryz.func74, Tryz.ntmps74
  go_wp2
  go_loopw [2] (fun i wz => i = .int .i64 0 ∧ wz = W) (fun _ _ => 0)
  case atStart => exact ⟨rfl, rfl⟩
  case round =>
    obtain ⟨rfl, rfl⟩ := hrel
    go_wp2
    go_end0
    exact ⟨rfl, rfl⟩
set_option maxHeartbeats 1000000 in
theorem growGrams_e (h : W.cell? ⟨bb, 18, none⟩ = some (.slice none 0 0)) : Calls Tryz.prog 86 #[.pointer (some ⟨bb, 0, none⟩)] W fun e w' => e = .returned (.slice none 0 0) ∧ w' = W := by
  go_enter Tryz.func86, Tryz.ntmps86
  go_wp2
  go_loopw [3, 4] (fun o i wz => o = .slice none 0 0 ∧ i = .int .i64 0 ∧ wz = W) (fun _ _ _ => 0)
  case atStart => exact ⟨rfl, rfl, rfl⟩
  case round =>
    obtain ⟨rfl, rfl, rfl⟩ := hrel
    go_wp2
    go_ret
    exact ⟨rfl, rfl⟩
set_option maxHeartbeats 1000000 in
theorem markedGrams_e (W : World) : Calls Tryz.prog 98 #[.slice none 0 0] W fun e w' => e = .returned (.bool true) ∧ w' = W := by
  go_enter Tryz.func98, Tryz.ntmps98
  go_wp2
  go_loopw [3] (fun i wz => i = .int .i64 0 ∧ wz = W) (fun _ _ => 0)
  case atStart => exact ⟨rfl, rfl⟩
  case round =>
    obtain ⟨rfl, rfl⟩ := hrel
    go_wp2
    go_ret
    exact ⟨rfl, rfl⟩
set_option maxHeartbeats 1000000 in
theorem stillSteps_e (h : W.cell? ⟨bb, 20, none⟩ = some (.slice none 0 0)) : Calls Tryz.prog 63 #[.pointer (some ⟨bb, 0, none⟩)] W fun e w' => e = .returned (.bool true) ∧ w' = W := by
  go_enter Tryz.func63, Tryz.ntmps63
  go_wp2
  go_loopw [3] (fun i wz => i = .int .i64 0 ∧ wz = W) (fun _ _ => 0)
  case atStart => exact ⟨rfl, rfl⟩
  case round =>
    obtain ⟨rfl, rfl⟩ := hrel
    go_wp2
    go_ret
    exact ⟨rfl, rfl⟩
set_option maxHeartbeats 1000000 in
theorem putSteps_e (h : W.cell? ⟨bb, 20, none⟩ = some (.slice none 0 0)) : Calls Tryz.prog 75 #[.pointer (some ⟨bb, 0, none⟩)] W fun e w' => e = .returned (.tuple #[]) ∧ w' = W := by
  go_enter Tryz.func75, Tryz.ntmps75
  go_wp2
  go_loopw [2] (fun i wz => i = .int .i64 0 ∧ wz = W) (fun _ _ => 0)
  case atStart => exact ⟨rfl, rfl⟩
  case round =>
    obtain ⟨rfl, rfl⟩ := hrel
    go_wp2
    go_end0
    exact ⟨rfl, rfl⟩
set_option maxHeartbeats 1000000 in
theorem growSteps_e (h : W.cell? ⟨bb, 20, none⟩ = some (.slice none 0 0)) : Calls Tryz.prog 87 #[.pointer (some ⟨bb, 0, none⟩)] W fun e w' => e = .returned (.slice none 0 0) ∧ w' = W := by
  go_enter Tryz.func87, Tryz.ntmps87
  go_wp2
  go_loopw [3, 4] (fun o i wz => o = .slice none 0 0 ∧ i = .int .i64 0 ∧ wz = W) (fun _ _ _ => 0)
  case atStart => exact ⟨rfl, rfl, rfl⟩
  case round =>
    obtain ⟨rfl, rfl, rfl⟩ := hrel
    go_wp2
    go_ret
    exact ⟨rfl, rfl⟩
set_option maxHeartbeats 1000000 in
theorem markedSteps_e (W : World) : Calls Tryz.prog 99 #[.slice none 0 0] W fun e w' => e = .returned (.bool true) ∧ w' = W := by
  go_enter Tryz.func99, Tryz.ntmps99
  go_wp2
  go_loopw [3] (fun i wz => i = .int .i64 0 ∧ wz = W) (fun _ _ => 0)
  case atStart => exact ⟨rfl, rfl⟩
  case round =>
    obtain ⟨rfl, rfl⟩ := hrel
    go_wp2
    go_ret
    exact ⟨rfl, rfl⟩
set_option maxHeartbeats 1000000 in
theorem stillRows_e (h : W.cell? ⟨bb, 22, none⟩ = some (.slice none 0 0)) : Calls Tryz.prog 64 #[.pointer (some ⟨bb, 0, none⟩)] W fun e w' => e = .returned (.bool true) ∧ w' = W := by
  go_enter Tryz.func64, Tryz.ntmps64
  go_wp2
  go_loopw [3] (fun i wz => i = .int .i64 0 ∧ wz = W) (fun _ _ => 0)
  case atStart => exact ⟨rfl, rfl⟩
  case round =>
    obtain ⟨rfl, rfl⟩ := hrel
    go_wp2
    go_ret
    exact ⟨rfl, rfl⟩
set_option maxHeartbeats 1000000 in
theorem putRows_e (h : W.cell? ⟨bb, 22, none⟩ = some (.slice none 0 0)) : Calls Tryz.prog 76 #[.pointer (some ⟨bb, 0, none⟩)] W fun e w' => e = .returned (.tuple #[]) ∧ w' = W := by
  go_enter Tryz.func76, Tryz.ntmps76
  go_wp2
  go_loopw [2] (fun i wz => i = .int .i64 0 ∧ wz = W) (fun _ _ => 0)
  case atStart => exact ⟨rfl, rfl⟩
  case round =>
    obtain ⟨rfl, rfl⟩ := hrel
    go_wp2
    go_end0
    exact ⟨rfl, rfl⟩
set_option maxHeartbeats 1000000 in
theorem growRows_e (h : W.cell? ⟨bb, 22, none⟩ = some (.slice none 0 0)) : Calls Tryz.prog 88 #[.pointer (some ⟨bb, 0, none⟩)] W fun e w' => e = .returned (.slice none 0 0) ∧ w' = W := by
  go_enter Tryz.func88, Tryz.ntmps88
  go_wp2
  go_loopw [3, 4] (fun o i wz => o = .slice none 0 0 ∧ i = .int .i64 0 ∧ wz = W) (fun _ _ _ => 0)
  case atStart => exact ⟨rfl, rfl, rfl⟩
  case round =>
    obtain ⟨rfl, rfl, rfl⟩ := hrel
    go_wp2
    go_ret
    exact ⟨rfl, rfl⟩
set_option maxHeartbeats 1000000 in
theorem markedRows_e (W : World) : Calls Tryz.prog 100 #[.slice none 0 0] W fun e w' => e = .returned (.bool true) ∧ w' = W := by
  go_enter Tryz.func100, Tryz.ntmps100
  go_wp2
  go_loopw [3] (fun i wz => i = .int .i64 0 ∧ wz = W) (fun _ _ => 0)
  case atStart => exact ⟨rfl, rfl⟩
  case round =>
    obtain ⟨rfl, rfl⟩ := hrel
    go_wp2
    go_ret
    exact ⟨rfl, rfl⟩
end
set_option maxHeartbeats 40000000 in
set_option maxRecDepth 100000 in
theorem apart_any {base bb : Nat} {w : World} {C : Array Value} {uNotices vNotices : Value} {xNotices yNotices : List Value} {LNotices : List (List tNotices)} {uEvents vEvents : Value} {xEvents yEvents : List Value} {LEvents : List (List tEvents)} (hB : Bb 78 w bb C) (hC : ∀ j, j < 24 → j ≠ 6 → j ≠ 7 → j ≠ 12 → j ≠ 13 → C[j]? = some (.slice none 0 0)) (huNotices : C[6]? = some uNotices) (hvNotices : C[7]? = some vNotices) (hNotices : Kk cNotices 3 185 46 base w uNotices vNotices xNotices yNotices LNotices) (huEvents : C[12]? = some uEvents) (hvEvents : C[13]? = some vEvents) (hEvents : Kk cEvents 15 121 56 base w uEvents vEvents xEvents yEvents LEvents) (hbz : base ≤ w.heap.size) : Calls Tryz.prog 16 #[.pointer (some ⟨bb, 0, none⟩)] w fun e w' => e = .returned (.bool true) ∧ Below base w w' := by
  have hsInts : ∀ V, Bb 78 V bb C → Calls Tryz.prog 53 #[.pointer (some ⟨bb, 0, none⟩)] V fun e w' => e = .returned (.bool true) ∧ w' = V := fun V hV => stillInts_e (by rw [cell_at hV]; exact hC 0 (by decide) (by decide) (by decide) (by decide) (by decide))
  have hpInts : ∀ V, Bb 78 V bb C → Calls Tryz.prog 65 #[.pointer (some ⟨bb, 0, none⟩)] V fun e w' => e = .returned (.tuple #[]) ∧ w' = V := fun V hV => putInts_e (by rw [cell_at hV]; exact hC 0 (by decide) (by decide) (by decide) (by decide) (by decide))
  have hgInts : ∀ V, Bb 78 V bb C → Calls Tryz.prog 77 #[.pointer (some ⟨bb, 0, none⟩)] V fun e w' => e = .returned (.slice none 0 0) ∧ w' = V := fun V hV => growInts_e (by rw [cell_at hV]; exact hC 0 (by decide) (by decide) (by decide) (by decide) (by decide))
  have hmInts := markedInts_e
  have hsChars : ∀ V, Bb 78 V bb C → Calls Tryz.prog 54 #[.pointer (some ⟨bb, 0, none⟩)] V fun e w' => e = .returned (.bool true) ∧ w' = V := fun V hV => stillChars_e (by rw [cell_at hV]; exact hC 2 (by decide) (by decide) (by decide) (by decide) (by decide))
  have hpChars : ∀ V, Bb 78 V bb C → Calls Tryz.prog 66 #[.pointer (some ⟨bb, 0, none⟩)] V fun e w' => e = .returned (.tuple #[]) ∧ w' = V := fun V hV => putChars_e (by rw [cell_at hV]; exact hC 2 (by decide) (by decide) (by decide) (by decide) (by decide))
  have hgChars : ∀ V, Bb 78 V bb C → Calls Tryz.prog 78 #[.pointer (some ⟨bb, 0, none⟩)] V fun e w' => e = .returned (.slice none 0 0) ∧ w' = V := fun V hV => growChars_e (by rw [cell_at hV]; exact hC 2 (by decide) (by decide) (by decide) (by decide) (by decide))
  have hmChars := markedChars_e
  have hsTokens : ∀ V, Bb 78 V bb C → Calls Tryz.prog 55 #[.pointer (some ⟨bb, 0, none⟩)] V fun e w' => e = .returned (.bool true) ∧ w' = V := fun V hV => stillTokens_e (by rw [cell_at hV]; exact hC 4 (by decide) (by decide) (by decide) (by decide) (by decide))
  have hpTokens : ∀ V, Bb 78 V bb C → Calls Tryz.prog 67 #[.pointer (some ⟨bb, 0, none⟩)] V fun e w' => e = .returned (.tuple #[]) ∧ w' = V := fun V hV => putTokens_e (by rw [cell_at hV]; exact hC 4 (by decide) (by decide) (by decide) (by decide) (by decide))
  have hgTokens : ∀ V, Bb 78 V bb C → Calls Tryz.prog 79 #[.pointer (some ⟨bb, 0, none⟩)] V fun e w' => e = .returned (.slice none 0 0) ∧ w' = V := fun V hV => growTokens_e (by rw [cell_at hV]; exact hC 4 (by decide) (by decide) (by decide) (by decide) (by decide))
  have hmTokens := markedTokens_e
  have hsBytes : ∀ V, Bb 78 V bb C → Calls Tryz.prog 57 #[.pointer (some ⟨bb, 0, none⟩)] V fun e w' => e = .returned (.bool true) ∧ w' = V := fun V hV => stillBytes_e (by rw [cell_at hV]; exact hC 8 (by decide) (by decide) (by decide) (by decide) (by decide))
  have hpBytes : ∀ V, Bb 78 V bb C → Calls Tryz.prog 69 #[.pointer (some ⟨bb, 0, none⟩)] V fun e w' => e = .returned (.tuple #[]) ∧ w' = V := fun V hV => putBytes_e (by rw [cell_at hV]; exact hC 8 (by decide) (by decide) (by decide) (by decide) (by decide))
  have hgBytes : ∀ V, Bb 78 V bb C → Calls Tryz.prog 81 #[.pointer (some ⟨bb, 0, none⟩)] V fun e w' => e = .returned (.slice none 0 0) ∧ w' = V := fun V hV => growBytes_e (by rw [cell_at hV]; exact hC 8 (by decide) (by decide) (by decide) (by decide) (by decide))
  have hmBytes := markedBytes_e
  have hsSets : ∀ V, Bb 78 V bb C → Calls Tryz.prog 58 #[.pointer (some ⟨bb, 0, none⟩)] V fun e w' => e = .returned (.bool true) ∧ w' = V := fun V hV => stillSets_e (by rw [cell_at hV]; exact hC 10 (by decide) (by decide) (by decide) (by decide) (by decide))
  have hpSets : ∀ V, Bb 78 V bb C → Calls Tryz.prog 70 #[.pointer (some ⟨bb, 0, none⟩)] V fun e w' => e = .returned (.tuple #[]) ∧ w' = V := fun V hV => putSets_e (by rw [cell_at hV]; exact hC 10 (by decide) (by decide) (by decide) (by decide) (by decide))
  have hgSets : ∀ V, Bb 78 V bb C → Calls Tryz.prog 82 #[.pointer (some ⟨bb, 0, none⟩)] V fun e w' => e = .returned (.slice none 0 0) ∧ w' = V := fun V hV => growSets_e (by rw [cell_at hV]; exact hC 10 (by decide) (by decide) (by decide) (by decide) (by decide))
  have hmSets := markedSets_e
  have hsErrs : ∀ V, Bb 78 V bb C → Calls Tryz.prog 60 #[.pointer (some ⟨bb, 0, none⟩)] V fun e w' => e = .returned (.bool true) ∧ w' = V := fun V hV => stillErrs_e (by rw [cell_at hV]; exact hC 14 (by decide) (by decide) (by decide) (by decide) (by decide))
  have hpErrs : ∀ V, Bb 78 V bb C → Calls Tryz.prog 72 #[.pointer (some ⟨bb, 0, none⟩)] V fun e w' => e = .returned (.tuple #[]) ∧ w' = V := fun V hV => putErrs_e (by rw [cell_at hV]; exact hC 14 (by decide) (by decide) (by decide) (by decide) (by decide))
  have hgErrs : ∀ V, Bb 78 V bb C → Calls Tryz.prog 84 #[.pointer (some ⟨bb, 0, none⟩)] V fun e w' => e = .returned (.slice none 0 0) ∧ w' = V := fun V hV => growErrs_e (by rw [cell_at hV]; exact hC 14 (by decide) (by decide) (by decide) (by decide) (by decide))
  have hmErrs := markedErrs_e
  have hsOuts : ∀ V, Bb 78 V bb C → Calls Tryz.prog 61 #[.pointer (some ⟨bb, 0, none⟩)] V fun e w' => e = .returned (.bool true) ∧ w' = V := fun V hV => stillOuts_e (by rw [cell_at hV]; exact hC 16 (by decide) (by decide) (by decide) (by decide) (by decide))
  have hpOuts : ∀ V, Bb 78 V bb C → Calls Tryz.prog 73 #[.pointer (some ⟨bb, 0, none⟩)] V fun e w' => e = .returned (.tuple #[]) ∧ w' = V := fun V hV => putOuts_e (by rw [cell_at hV]; exact hC 16 (by decide) (by decide) (by decide) (by decide) (by decide))
  have hgOuts : ∀ V, Bb 78 V bb C → Calls Tryz.prog 85 #[.pointer (some ⟨bb, 0, none⟩)] V fun e w' => e = .returned (.slice none 0 0) ∧ w' = V := fun V hV => growOuts_e (by rw [cell_at hV]; exact hC 16 (by decide) (by decide) (by decide) (by decide) (by decide))
  have hmOuts := markedOuts_e
  have hsGrams : ∀ V, Bb 78 V bb C → Calls Tryz.prog 62 #[.pointer (some ⟨bb, 0, none⟩)] V fun e w' => e = .returned (.bool true) ∧ w' = V := fun V hV => stillGrams_e (by rw [cell_at hV]; exact hC 18 (by decide) (by decide) (by decide) (by decide) (by decide))
  have hpGrams : ∀ V, Bb 78 V bb C → Calls Tryz.prog 74 #[.pointer (some ⟨bb, 0, none⟩)] V fun e w' => e = .returned (.tuple #[]) ∧ w' = V := fun V hV => putGrams_e (by rw [cell_at hV]; exact hC 18 (by decide) (by decide) (by decide) (by decide) (by decide))
  have hgGrams : ∀ V, Bb 78 V bb C → Calls Tryz.prog 86 #[.pointer (some ⟨bb, 0, none⟩)] V fun e w' => e = .returned (.slice none 0 0) ∧ w' = V := fun V hV => growGrams_e (by rw [cell_at hV]; exact hC 18 (by decide) (by decide) (by decide) (by decide) (by decide))
  have hmGrams := markedGrams_e
  have hsSteps : ∀ V, Bb 78 V bb C → Calls Tryz.prog 63 #[.pointer (some ⟨bb, 0, none⟩)] V fun e w' => e = .returned (.bool true) ∧ w' = V := fun V hV => stillSteps_e (by rw [cell_at hV]; exact hC 20 (by decide) (by decide) (by decide) (by decide) (by decide))
  have hpSteps : ∀ V, Bb 78 V bb C → Calls Tryz.prog 75 #[.pointer (some ⟨bb, 0, none⟩)] V fun e w' => e = .returned (.tuple #[]) ∧ w' = V := fun V hV => putSteps_e (by rw [cell_at hV]; exact hC 20 (by decide) (by decide) (by decide) (by decide) (by decide))
  have hgSteps : ∀ V, Bb 78 V bb C → Calls Tryz.prog 87 #[.pointer (some ⟨bb, 0, none⟩)] V fun e w' => e = .returned (.slice none 0 0) ∧ w' = V := fun V hV => growSteps_e (by rw [cell_at hV]; exact hC 20 (by decide) (by decide) (by decide) (by decide) (by decide))
  have hmSteps := markedSteps_e
  have hsRows : ∀ V, Bb 78 V bb C → Calls Tryz.prog 64 #[.pointer (some ⟨bb, 0, none⟩)] V fun e w' => e = .returned (.bool true) ∧ w' = V := fun V hV => stillRows_e (by rw [cell_at hV]; exact hC 22 (by decide) (by decide) (by decide) (by decide) (by decide))
  have hpRows : ∀ V, Bb 78 V bb C → Calls Tryz.prog 76 #[.pointer (some ⟨bb, 0, none⟩)] V fun e w' => e = .returned (.tuple #[]) ∧ w' = V := fun V hV => putRows_e (by rw [cell_at hV]; exact hC 22 (by decide) (by decide) (by decide) (by decide) (by decide))
  have hgRows : ∀ V, Bb 78 V bb C → Calls Tryz.prog 88 #[.pointer (some ⟨bb, 0, none⟩)] V fun e w' => e = .returned (.slice none 0 0) ∧ w' = V := fun V hV => growRows_e (by rw [cell_at hV]; exact hC 22 (by decide) (by decide) (by decide) (by decide) (by decide))
  have hmRows := markedRows_e
  have hst0 := stillNotices_any hB huNotices hvNotices hNotices.kl hNotices.cl
  go_enter Tryz.func16, Tryz.ntmps16
  go_wp2_with (first | (go_at_call 53; (with_reducible refine (hsInts _ (by assumption)).mono ?_); rintro e vv ⟨rfl, hvv⟩; obtain rfl := hvv.symm) | (go_at_call 65; (with_reducible refine (hpInts _ (by assumption)).mono ?_); rintro e vv ⟨rfl, hvv⟩; obtain rfl := hvv.symm) | (go_at_call 77; (with_reducible refine (hgInts _ (by assumption)).mono ?_); rintro e vv ⟨rfl, hvv⟩; obtain rfl := hvv.symm) | (go_at_call 89; (with_reducible refine (hmInts _).mono ?_); rintro e vv ⟨rfl, hvv⟩; obtain rfl := hvv.symm) | (go_at_call 54; (with_reducible refine (hsChars _ (by assumption)).mono ?_); rintro e vv ⟨rfl, hvv⟩; obtain rfl := hvv.symm) | (go_at_call 66; (with_reducible refine (hpChars _ (by assumption)).mono ?_); rintro e vv ⟨rfl, hvv⟩; obtain rfl := hvv.symm) | (go_at_call 78; (with_reducible refine (hgChars _ (by assumption)).mono ?_); rintro e vv ⟨rfl, hvv⟩; obtain rfl := hvv.symm) | (go_at_call 90; (with_reducible refine (hmChars _).mono ?_); rintro e vv ⟨rfl, hvv⟩; obtain rfl := hvv.symm) | (go_at_call 55; (with_reducible refine (hsTokens _ (by assumption)).mono ?_); rintro e vv ⟨rfl, hvv⟩; obtain rfl := hvv.symm) | (go_at_call 67; (with_reducible refine (hpTokens _ (by assumption)).mono ?_); rintro e vv ⟨rfl, hvv⟩; obtain rfl := hvv.symm) | (go_at_call 79; (with_reducible refine (hgTokens _ (by assumption)).mono ?_); rintro e vv ⟨rfl, hvv⟩; obtain rfl := hvv.symm) | (go_at_call 91; (with_reducible refine (hmTokens _).mono ?_); rintro e vv ⟨rfl, hvv⟩; obtain rfl := hvv.symm) | (go_at_call 57; (with_reducible refine (hsBytes _ (by assumption)).mono ?_); rintro e vv ⟨rfl, hvv⟩; obtain rfl := hvv.symm) | (go_at_call 69; (with_reducible refine (hpBytes _ (by assumption)).mono ?_); rintro e vv ⟨rfl, hvv⟩; obtain rfl := hvv.symm) | (go_at_call 81; (with_reducible refine (hgBytes _ (by assumption)).mono ?_); rintro e vv ⟨rfl, hvv⟩; obtain rfl := hvv.symm) | (go_at_call 93; (with_reducible refine (hmBytes _).mono ?_); rintro e vv ⟨rfl, hvv⟩; obtain rfl := hvv.symm) | (go_at_call 58; (with_reducible refine (hsSets _ (by assumption)).mono ?_); rintro e vv ⟨rfl, hvv⟩; obtain rfl := hvv.symm) | (go_at_call 70; (with_reducible refine (hpSets _ (by assumption)).mono ?_); rintro e vv ⟨rfl, hvv⟩; obtain rfl := hvv.symm) | (go_at_call 82; (with_reducible refine (hgSets _ (by assumption)).mono ?_); rintro e vv ⟨rfl, hvv⟩; obtain rfl := hvv.symm) | (go_at_call 94; (with_reducible refine (hmSets _).mono ?_); rintro e vv ⟨rfl, hvv⟩; obtain rfl := hvv.symm) | (go_at_call 60; (with_reducible refine (hsErrs _ (by assumption)).mono ?_); rintro e vv ⟨rfl, hvv⟩; obtain rfl := hvv.symm) | (go_at_call 72; (with_reducible refine (hpErrs _ (by assumption)).mono ?_); rintro e vv ⟨rfl, hvv⟩; obtain rfl := hvv.symm) | (go_at_call 84; (with_reducible refine (hgErrs _ (by assumption)).mono ?_); rintro e vv ⟨rfl, hvv⟩; obtain rfl := hvv.symm) | (go_at_call 96; (with_reducible refine (hmErrs _).mono ?_); rintro e vv ⟨rfl, hvv⟩; obtain rfl := hvv.symm) | (go_at_call 61; (with_reducible refine (hsOuts _ (by assumption)).mono ?_); rintro e vv ⟨rfl, hvv⟩; obtain rfl := hvv.symm) | (go_at_call 73; (with_reducible refine (hpOuts _ (by assumption)).mono ?_); rintro e vv ⟨rfl, hvv⟩; obtain rfl := hvv.symm) | (go_at_call 85; (with_reducible refine (hgOuts _ (by assumption)).mono ?_); rintro e vv ⟨rfl, hvv⟩; obtain rfl := hvv.symm) | (go_at_call 97; (with_reducible refine (hmOuts _).mono ?_); rintro e vv ⟨rfl, hvv⟩; obtain rfl := hvv.symm) | (go_at_call 62; (with_reducible refine (hsGrams _ (by assumption)).mono ?_); rintro e vv ⟨rfl, hvv⟩; obtain rfl := hvv.symm) | (go_at_call 74; (with_reducible refine (hpGrams _ (by assumption)).mono ?_); rintro e vv ⟨rfl, hvv⟩; obtain rfl := hvv.symm) | (go_at_call 86; (with_reducible refine (hgGrams _ (by assumption)).mono ?_); rintro e vv ⟨rfl, hvv⟩; obtain rfl := hvv.symm) | (go_at_call 98; (with_reducible refine (hmGrams _).mono ?_); rintro e vv ⟨rfl, hvv⟩; obtain rfl := hvv.symm) | (go_at_call 63; (with_reducible refine (hsSteps _ (by assumption)).mono ?_); rintro e vv ⟨rfl, hvv⟩; obtain rfl := hvv.symm) | (go_at_call 75; (with_reducible refine (hpSteps _ (by assumption)).mono ?_); rintro e vv ⟨rfl, hvv⟩; obtain rfl := hvv.symm) | (go_at_call 87; (with_reducible refine (hgSteps _ (by assumption)).mono ?_); rintro e vv ⟨rfl, hvv⟩; obtain rfl := hvv.symm) | (go_at_call 99; (with_reducible refine (hmSteps _).mono ?_); rintro e vv ⟨rfl, hvv⟩; obtain rfl := hvv.symm) | (go_at_call 64; (with_reducible refine (hsRows _ (by assumption)).mono ?_); rintro e vv ⟨rfl, hvv⟩; obtain rfl := hvv.symm) | (go_at_call 76; (with_reducible refine (hpRows _ (by assumption)).mono ?_); rintro e vv ⟨rfl, hvv⟩; obtain rfl := hvv.symm) | (go_at_call 88; (with_reducible refine (hgRows _ (by assumption)).mono ?_); rintro e vv ⟨rfl, hvv⟩; obtain rfl := hvv.symm) | (go_at_call 100; (with_reducible refine (hmRows _).mono ?_); rintro e vv ⟨rfl, hvv⟩; obtain rfl := hvv.symm) | (go_at_call 56; (with_reducible refine hst0.mono ?_); rintro e z0 ⟨rfl, hb0⟩; have hB0 := hB.carry hb0; have hNotices0 := hNotices.carry hb0; have hEvents0 := hEvents.carry hb0; have HB0 : Hid (Below base w z0) := (hb0.mono (Nat.le_trans hbz (Nat.le_refl _))); have hst1 := stillEvents_any hB0 huEvents hvEvents hEvents0.kl hEvents0.cl; clear hB) | (go_at_call 59; (with_reducible refine hst1.mono ?_); rintro e z1 ⟨rfl, hb1⟩; have hB1 := hB0.carry hb1; have hNotices1 := hNotices0.carry hb1; have hEvents1 := hEvents0.carry hb1; have HB1 : Hid (Below base w z1) := HB0.out.trans (hb1.mono (Nat.le_trans hbz HB0.out.size)); have hst2 := putNotices_any hB1 huNotices hNotices1.kl; clear hB0) | (go_at_call 68; (with_reducible refine hst2.mono ?_); rintro e z2 ⟨rfl, ⟨L2, hn2, hup2⟩, hb2⟩; have hB2 := hB1.bxt hNotices1.kl hb2 (by decide); have hEvents2 := hEvents1.kl.bxt hNotices1.kl hb2 (by decide) (by decide); have HB2 : Hid (Below base w z2) := HB1.out.trans (hb2.low hNotices1.kl (Nat.le_trans hbz HB1.out.size)); have HMNotices : Hid (Mkd mNotices L2) := hup2.all; have hst3 := putEvents_any hB2 huEvents hEvents2; clear hB1) | (go_at_call 71; (with_reducible refine hst3.mono ?_); rintro e z3 ⟨rfl, ⟨L3, hn3, hup3⟩, hb3⟩; have hB3 := hB2.bxt hEvents2 hb3 (by decide); have hNotices3 := hn2.bxt hEvents2 hb3 (by decide) (by decide); have HB3 : Hid (Below base w z3) := HB2.out.trans (hb3.low hEvents2 (Nat.le_trans hbz HB2.out.size)); have HMEvents : Hid (Mkd mEvents L3) := hup3.all; have hst4 := growNotices_any hB3 huNotices hNotices3 HMNotices.out (Nat.le_trans hbz HB3.out.size); clear hB2) | (go_at_call 80; (with_reducible refine hst4.mono ?_); rintro e z4 ⟨uoNotices, rfl, ONotices, hro4Notices, hgk4Notices, hn4, hb4⟩; have hB4 := hB3.bxt hNotices3 hb4 (by decide); have hEvents4 := hn3.bxt hNotices3 hb4 (by decide) (by decide); have HB4 : Hid (Below base w z4) := HB3.out.trans (hb4.low hNotices3 (Nat.le_trans hbz HB3.out.size)); have hst5 := growEvents_any hB4 huEvents hEvents4 HMEvents.out (Nat.le_trans hbz HB4.out.size); clear hB3) | (go_at_call 83; (with_reducible refine hst5.mono ?_); rintro e z5 ⟨uoEvents, rfl, OEvents, hro5Events, hgk5Events, hn5, hb5⟩; have hB5 := hB4.bxt hEvents4 hb5 (by decide); have hNotices5 := hn4.bxt hEvents4 hb5 (by decide) (by decide); have hro5Notices := row_bxt hro4Notices hEvents4 hb5 (by decide); have hgk5Notices := hgk4Notices.bxt hEvents4 hb5 (by decide); have HB5 : Hid (Below base w z5) := HB4.out.trans (hb5.low hEvents4 (Nat.le_trans hbz HB4.out.size)); have hst6 := markedNotices_any hro5Notices hgk5Notices.mkn hNotices5.k; have c5_0 : z5.cell? ⟨bb, 0, none⟩ = some (.slice none 0 0) := (by rw [cell_at hB5]; exact hC 0 (by decide) (by decide) (by decide) (by decide) (by decide)); have c5_2 : z5.cell? ⟨bb, 2, none⟩ = some (.slice none 0 0) := (by rw [cell_at hB5]; exact hC 2 (by decide) (by decide) (by decide) (by decide) (by decide)); have c5_4 : z5.cell? ⟨bb, 4, none⟩ = some (.slice none 0 0) := (by rw [cell_at hB5]; exact hC 4 (by decide) (by decide) (by decide) (by decide) (by decide)); clear hB4) | (go_at_call 92; (with_reducible refine hst6.mono ?_); rintro e z6 ⟨rfl, hb6⟩; clear hst6; have hB6 := hB5.carry hb6; have hNotices6 := hNotices5.carry hb6; have hro6Notices := row_below hro5Notices hb6; have hgk6Notices := hgk5Notices.carry hb6; have hEvents6 := hn5.carry hb6; have hro6Events := row_below hro5Events hb6; have hgk6Events := hgk5Events.carry hb6; have HB6 : Hid (Below base w z6) := HB5.out.trans (hb6.mono (Nat.le_trans hbz HB5.out.size)); have hst7 := markedNotices_any hNotices6.row (Mkn.of hNotices6 HMNotices.out) hNotices6.k; have c6_6 : z6.cell? ⟨bb, 6, none⟩ = some uNotices := (by rw [cell_at hB6]; exact huNotices); clear hB5) | (go_at_call 92; (with_reducible refine hst7.mono ?_); rintro e z7 ⟨rfl, hb7⟩; clear hst7; have hB7 := hB6.carry hb7; have hNotices7 := hNotices6.carry hb7; have hro7Notices := row_below hro6Notices hb7; have hgk7Notices := hgk6Notices.carry hb7; have hEvents7 := hEvents6.carry hb7; have hro7Events := row_below hro6Events hb7; have hgk7Events := hgk6Events.carry hb7; have HB7 : Hid (Below base w z7) := HB6.out.trans (hb7.mono (Nat.le_trans hbz HB6.out.size)); have hst8 := markedEvents_any hro7Events hgk7Events.mkn hEvents7.k; have c7_8 : z7.cell? ⟨bb, 8, none⟩ = some (.slice none 0 0) := (by rw [cell_at hB7]; exact hC 8 (by decide) (by decide) (by decide) (by decide) (by decide)); have c7_10 : z7.cell? ⟨bb, 10, none⟩ = some (.slice none 0 0) := (by rw [cell_at hB7]; exact hC 10 (by decide) (by decide) (by decide) (by decide) (by decide)); clear hB6) | (go_at_call 95; (with_reducible refine hst8.mono ?_); rintro e z8 ⟨rfl, hb8⟩; clear hst8; have hB8 := hB7.carry hb8; have hNotices8 := hNotices7.carry hb8; have hro8Notices := row_below hro7Notices hb8; have hgk8Notices := hgk7Notices.carry hb8; have hEvents8 := hEvents7.carry hb8; have hro8Events := row_below hro7Events hb8; have hgk8Events := hgk7Events.carry hb8; have HB8 : Hid (Below base w z8) := HB7.out.trans (hb8.mono (Nat.le_trans hbz HB7.out.size)); have hst9 := markedEvents_any hEvents8.row (Mkn.of hEvents8 HMEvents.out) hEvents8.k; have c8_12 : z8.cell? ⟨bb, 12, none⟩ = some uEvents := (by rw [cell_at hB8]; exact huEvents); clear hB7) | (go_at_call 95; (with_reducible refine hst9.mono ?_); rintro e z9 ⟨rfl, hb9⟩; clear hst9; have hB9 := hB8.carry hb9; have hNotices9 := hNotices8.carry hb9; have hro9Notices := row_below hro8Notices hb9; have hgk9Notices := hgk8Notices.carry hb9; have hEvents9 := hEvents8.carry hb9; have hro9Events := row_below hro8Events hb9; have hgk9Events := hgk8Events.carry hb9; have HB9 : Hid (Below base w z9) := HB8.out.trans (hb9.mono (Nat.le_trans hbz HB8.out.size)); have c9_14 : z9.cell? ⟨bb, 14, none⟩ = some (.slice none 0 0) := (by rw [cell_at hB9]; exact hC 14 (by decide) (by decide) (by decide) (by decide) (by decide)); have c9_16 : z9.cell? ⟨bb, 16, none⟩ = some (.slice none 0 0) := (by rw [cell_at hB9]; exact hC 16 (by decide) (by decide) (by decide) (by decide) (by decide)); have c9_18 : z9.cell? ⟨bb, 18, none⟩ = some (.slice none 0 0) := (by rw [cell_at hB9]; exact hC 18 (by decide) (by decide) (by decide) (by decide) (by decide)); have c9_20 : z9.cell? ⟨bb, 20, none⟩ = some (.slice none 0 0) := (by rw [cell_at hB9]; exact hC 20 (by decide) (by decide) (by decide) (by decide) (by decide)); have c9_22 : z9.cell? ⟨bb, 22, none⟩ = some (.slice none 0 0) := (by rw [cell_at hB9]; exact hC 22 (by decide) (by decide) (by decide) (by decide) (by decide)); clear hB8))
  go_ret
  exact ⟨rfl, HB9.out⟩
end Go.Proofs.YtklnfbanfgdgcaaGreatDoor.Kel
