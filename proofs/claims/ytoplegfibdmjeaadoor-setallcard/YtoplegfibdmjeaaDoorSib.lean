/- earshotbook.Book.Bytes: a list is kept, and a copy of it. -/
import Derived.Test.YtoplegfibdmjeaaDoorSia
import Derived.Test.YtoplegfibdmjeaaDoorStg
import Derived.Test.YtoplegfibdmjeaaDoorRgf
import Derived.Maps.AppendAt
import Derived.OwnWalk
import Derived.Laws.OwnMore
namespace Go.Proofs.YtoplegfibdmjeaaDoor
open Go.RowKit Go.Shelf Go.Lib

theorem al1 (w : World) (a : Obj) : Below w.heap.size w (w.alloc a) := (Below.refl _ w).alloc (Nat.le_refl _) _
/-- What the book of lists holds: of two kinds alone something. -/
def bkc (u v : Value) : Array Value := #[u, v, .slice none 0 0, .slice none 0 0, .slice none 0 0, .slice none 0 0, .slice none 0 0, .slice none 0 0, .slice none 0 0, .slice none 0 0, .slice none 0 0, .slice none 0 0, .slice none 0 0, .slice none 0 0, .slice none 0 0, .slice none 0 0, .slice none 0 0, .slice none 0 0, .slice none 0 0, .slice none 0 0, .slice none 0 0, .slice none 0 0, .slice none 0 0, .slice none 0 0]
def KB (W : World) (bb : Nat) (u v : Value) : Prop := W.heap[bb]? = some (.cells (bkc u v) 38 (0, 0))
/-- Nothing turns but the book of lists and its rows. -/
structure Kp (base bb : Nat) (W V : World) : Prop where
  os : V.os = W.os
  tape : V.tape = W.tape
  output : V.output = W.output
  size : W.heap.size ≤ V.heap.size
  block : ∀ (q : Nat) (o : Obj), W.heap[q]? = some o → q ≠ bb → (q < base ∨ ∀ c fz, o ≠ .cells c 42 fz) → V.heap[q]? = some o
theorem Kp.refl (base bb : Nat) (W : World) : Kp base bb W W := ⟨rfl, rfl, rfl, Nat.le_refl _, fun _ _ h _ _ => h⟩
theorem Kp.trans {base bb : Nat} {U V W : World} (h : Kp base bb U V) (k : Kp base bb V W) : Kp base bb U W :=
  ⟨k.os.trans h.os, k.tape.trans h.tape, k.output.trans h.output, Nat.le_trans h.size k.size, fun q o hq h1 h2 => k.block q o (h.block q o hq h1 h2) h1 h2⟩
theorem Kp.ofBelow {base bb : Nat} {W V : World} (h : Below W.heap.size W V) : Kp base bb W V := ⟨h.os, h.tape, h.output, h.size, fun q _ hq _ _ => (h.block q (lt_at hq)).trans hq⟩
theorem Kp.grown {base bb : Nat} {W V : World} {v : Value} {n : Nat} {xs : List Value} (hg : W.grownBy V v.ownBlock) (hr : W.ownsRow base 42 1 v n xs) : Kp base bb W V := by
  refine ⟨hg.os, hg.tape, hg.output, hg.size, fun q o hq _ h2 => (hg.block q (lt_at hq) (fun e => ?_)).trans hq⟩
  obtain ⟨h3, cur, h4⟩ := ownsRow_block hr q e.symm
  rw [hq] at h4
  obtain rfl := Option.some.inj h4
  rcases h2 with h2 | h2
  · omega
  · exact h2 _ _ rfl
theorem Kp.set {base bb j : Nat} {v : Value} (W : World) : Kp base bb W (W.setCell ⟨bb, j, none⟩ v) := ⟨rfl, rfl, rfl, by simp, fun q _ hq h1 _ => (Below.heap_setCell _ _ _ _ h1).trans hq⟩
theorem Kp.below {base bb : Nat} {w W V : World} (h : Kp base bb W V) (hb : Below base w W) (hbb : base ≤ bb) (hw : base ≤ w.heap.size) : Below base w V :=
  hb.trans ⟨h.os, h.tape, h.output, h.size, fun q hq => by
    have hlt : q < W.heap.size := Nat.lt_of_lt_of_le (Nat.lt_of_lt_of_le hq hw) hb.size
    have := h.block q _ (Array.getElem?_eq_getElem hlt) (by omega) (.inl hq)
    rw [this, Array.getElem?_eq_getElem hlt]⟩
/-- The book of lists: k lists, and their copies. -/
def NKx (base bb : Nat) (W : World) (k : Nat) (x y : List Value) : Prop := ∃ (u v : Value), k ≤ 400 ∧ KB W bb u v ∧ W.ownsRow base 42 1 u k x ∧ W.ownsRow base 42 1 v k y ∧ (∀ q, u.ownBlock = some q → v.ownBlock ≠ some q) ∧ base ≤ bb
def NK (base bb : Nat) (W : World) : Prop := ∃ k x y, NKx base bb W k x y
theorem infoSS : (Tryd.prog.info? 42).map (fun i => (i.zero, i.size, i.bytes)) = some (some (.slice none 0 0), 1, 24) := by kernel_rfl
theorem info_partsS : ∃ i, Tryd.prog.info? 42 = some i ∧ i.zero = some (.slice none 0 0) ∧ i.size = 1 ∧ i.bytes = 24 := by
  have h := infoSS
  cases hi : Tryd.prog.info? 42 with
  | none => rw [hi] at h; cases h
  | some i =>
    rw [hi] at h
    simp only [Option.map_some, Option.some.injEq, Prod.mk.injEq] at h
    exact ⟨i, rfl, h.1, h.2.1, h.2.2⟩
/-- A list copied behind nothing. -/
theorem cp_any {W : World} {ad : Option Addr} {c : Nat} {l : List Int} (ty : TypeId) (h : RdB W ad l) (hn : l.length ≤ 1000) (hc : ad = none → c = 0) : ∃ v' W', (Builtin.append_ #[42, 42] ty #[.slice none 0 0, .slice ad l.length c]).run Tryd.prog W = .ok v' W' ∧ (∃ a' c', v' = .slice a' l.length c') ∧ W'.ownsRow W.heap.size 3 1 v' l.length (cB l) ∧ Below W.heap.size W W' := by
  obtain ⟨ic, hic, hz0, hz1, hz2⟩ := info_parts infoInt
  have hnil := World.ownsRow_nil W W.heap.size 3 1
  cases ad with
  | none =>
    have hl0 : l = [] := by
      cases l with
      | nil => rfl
      | cons x r => obtain ⟨b, off, e, _⟩ := h (by simp); cases e
    subst hl0
    obtain rfl := hc rfl
    have hap := run_append_owned_none (P := Tryd.prog) W W.heap.size 42 ty 3 ic 1 Tryd.underlying42 hic _ _ _ hnil
    exact ⟨_, _, hap, ⟨none, 0, rfl⟩, hnil, Below.refl _ _⟩
  | some a =>
    have hnews : ∀ j u, (cB l)[j]? = some u → W.cell? (a.add j) = some u := by
      intro j u hj
      obtain ⟨b, off, e, _, hat⟩ := h (fun e => by subst e; simp [cB] at hj)
      obtain rfl := Option.some.inj e
      exact b_src hat j u hj
    obtain ⟨v', W', hr, h2, h3, _, _⟩ := run_append_own_at (P := Tryd.prog) W W.heap.size 42 ty 3 ic _ 1 8 Tryd.underlying42 hic hz0 hz1 hz2 rfl (by decide) (.slice none 0 0) 0 [] hnil a l.length c (cB l) (by rw [cB_len]; omega) hnews (cB_one l) (by unfold maxLen; omega) (by omega) (Nat.le_refl _)
    refine ⟨v', W', hr, ?_, by simpa using h2, ⟨h3.os, h3.tape, h3.output, h3.size, fun q hq => h3.block q hq (by simp [Value.ownBlock])⟩⟩
    obtain ⟨ad', cap', e, _⟩ := ownsRow_form h2
    exact ⟨ad', cap', by simpa using e⟩
section
variable {G : Type} {P : Program} {md : Region.Mode} {ops : Array Oper} {Q : Exit → Act → World → Prop} {X0 : Array Value} {val : G → Nat → Value} {J : G → (Nat → Bool) → World → Prop} {i : Nat} {o : Oper}
theorem stepG_buildG (hi : ops[i]? = some o) (hg : o.guard = none) (t : TypeId) (x : Operand) (v : G → Value) (ho : o.op = .buildSlice t 1 #[(0, x)]) (hx : ∀ g, rdo md ops X0 (val g) i o x = some (v g))
    (h : ∀ g d w, J g d w → d i = false → (∀ j, bindsOn md o j = true → d j = true) → (∀ j oj, ops[j]? = some oj → d j = true → ∀ k, bindsOn md oj k = true → d k = true) → ∃ g' w', (Instr.buildSlice t 1 #[(0, v g)]).run P w = .ok (val g' i) w' ∧ (∀ j, d j = true → val g' j = val g j) ∧ J g' (fun j => if j = i then true else d j) w') : StepG P md ops Q X0 val J i o := by
  intro g d a w hJ hun hdep hcl hS
  have hS' : Seen md ops X0 (val g) i o a := hS
  obtain ⟨g', w', h1, h2, h3⟩ := h g d w hJ hun hdep hcl
  unfold wpOp
  rw [hi]
  simp only [Region.wanted, hg, if_true]
  refine .inl ?_
  unfold Oper.wp execOp
  simp only [ho, List.map_toArray, List.map_cons, List.map_nil, hS'.eval (hx g), Sem.run_bind, h1, Result.andThen_ok, Sem.run_pure, Oper.upon_value]
  exact ⟨g', h2, rfl, h3⟩
theorem stepG_append (hi : ops[i]? = some o) (hg : o.guard = none) (t : TypeId) (x y : Operand) (vx vy : G → Value) (ho : o.op = .call { callee := .builtin .append, args := #[x, y], argTypes := #[t, t] }) (hx : ∀ g, rdo md ops X0 (val g) i o x = some (vx g)) (hy : ∀ g, rdo md ops X0 (val g) i o y = some (vy g))
    (h : ∀ g d w, J g d w → d i = false → (∀ j, bindsOn md o j = true → d j = true) → (∀ j oj, ops[j]? = some oj → d j = true → ∀ k, bindsOn md oj k = true → d k = true) → ∃ g' w', (Builtin.append_ #[t, t] o.type #[vx g, vy g]).run P w = .ok (val g' i) w' ∧ (∀ j, d j = true → val g' j = val g j) ∧ J g' (fun j => if j = i then true else d j) w') : StepG P md ops Q X0 val J i o := by
  intro g d a w hJ hun hdep hcl hS
  have hS' : Seen md ops X0 (val g) i o a := hS
  obtain ⟨g', w', h1, h2, h3⟩ := h g d w hJ hun hdep hcl
  unfold wpOp
  rw [hi]
  simp only [Region.wanted, hg, if_true]
  refine .inl ?_
  unfold Oper.wp execOp
  simp only [ho, resolve, invoke, builtin, List.map_toArray, List.map_cons, List.map_nil, hS'.eval (hx g), hS'.eval (hy g), Sem.run_bind, h1, Result.andThen_ok, Sem.run_pure, Oper.upon_value]
  exact ⟨g', h2, rfl, h3⟩
end
theorem bs_bys (W : World) (a : Option Addr) (n c : Nat) : (Instr.buildSlice 25 1 #[(0, .slice a n c)]).run Tryd.prog W = .ok (.slice (some ⟨W.heap.size, 0, none⟩) 1 1) (W.alloc (.cells #[.slice a n c] 42)) := by go_simp
theorem field_kb (W : World) (B : Nat) : (Instr.fieldAt 38 (.pointer (some ⟨B, 0, none⟩)) 1).run Tryd.prog W = .ok (.pointer (some ⟨B, 1, none⟩)) W := by go_simp
theorem load_kb {W : World} {bb n c : Nat} {a : Option Addr} {u : Value} (h : KB W bb u (.slice a n c)) : (Instr.loadAt 25 (.pointer (some ⟨bb, 1, none⟩))).run Tryd.prog W = .ok (.slice a n c) W := by
  have c0 : W.cell? ⟨bb, 1, none⟩ = some (.slice a n c) := (cell_at h 1).trans rfl
  go_simp
theorem store_kb {W : World} {bb n c : Nat} {a : Option Addr} {u v : Value} (h : KB W bb u v) : (Instr.storeAt 25 (.pointer (some ⟨bb, 1, none⟩)) (.slice a n c)).run Tryd.prog W = .ok () (W.setCell ⟨bb, 1, none⟩ (.slice a n c)) ∧ KB (W.setCell ⟨bb, 1, none⟩ (.slice a n c)) bb u (.slice a n c) := by
  have c0 : W.cell? ⟨bb, 1, none⟩ = some v := (cell_at h 1).trans rfl
  have z0 := thaw_at h 1
  refine ⟨by go_simp, ?_⟩
  have := heap_setCell_same _ _ 1 _ _ (.slice a n c) h
  exact this.trans rfl
theorem stepG_ofC {G : Type} {P : Program} {md : Region.Mode} {ops : Array Oper} {Q : Exit → Act → World → Prop} {X0 : Array Value} {val : G → Nat → Value} {J : G → (Nat → Bool) → World → Prop} {i : Nat} {o : Oper}
    (h : ∀ g d, d i = false → (∀ j, bindsOn md o j = true → d j = true) → (∀ j oj, ops[j]? = some oj → d j = true → ∀ k, bindsOn md oj k = true → d k = true) → StepAt P md ops Q X0 (val g) (J g d) (J g (fun j => if j = i then true else d j)) i o) : StepG P md ops Q X0 val J i o := by
  intro g d a w hJ hun hdep hcl hS
  exact wpOp_mono (fun a' w' hq => ⟨g, fun _ _ => rfl, hq.1, hq.2⟩) (h g d hun hdep hcl a w hJ hS)
/-- While the copy is made and kept. -/
structure JZ (base bb k n : Nat) (ad : Option Addr) (l : List Int) (x y : List Value) (u v : Value) (Z : World) (g : Value × Nat × Value) (d6 d7 d8 d11 : Bool) (W : World) : Prop where
  kb : KB W bb u (if d11 = true then g.2.2 else v)
  r6 : W.ownsRow base 42 1 u (k + 1) x
  r7 : W.ownsRow base 42 1 (if d8 = true then g.2.2 else v) (if d8 = true then k + 1 else k) (if d8 = true then y ++ [g.1] else y)
  ap : ∀ q, u.ownBlock = some q → (if d8 = true then g.2.2 else v).ownBlock ≠ some q
  cp : d6 = true → (∃ a' c', g.1 = .slice a' n c') ∧ W.ownsRow Z.heap.size 3 1 g.1 n (cB l)
  bl : d7 = true → d8 = false → W.heap[g.2.1]? = some (.cells #[g.1] 42 (0, 0)) ∧ v.ownBlock ≠ some g.2.1
  fm : d8 = true → ∃ a' c', g.2.2 = .slice a' (k + 1) c'
  rd : d6 = false → RdB W ad l
  kp : Kp base bb Z W
  bz : base ≤ W.heap.size
theorem row_lt2 {w : World} {base : Nat} {e : TypeId} {size : Nat} {v : Value} {n : Nat} {xs : List Value} (h : w.ownsRow base e size v n xs) : ∀ b, v.ownBlock = some b → base ≤ b ∧ b < w.heap.size := fun b hb => by
  obtain ⟨h1, cur, h2⟩ := ownsRow_block h b hb
  exact ⟨h1, lt_at h2⟩
theorem row_apart2 {w w' : World} {base : Nat} {e : TypeId} {size : Nat} {v : Value} {n : Nat} {xs : List Value} {row : Option Nat} (h : w.ownsRow base e size v n xs) (hg : w.grownBy w' row) (hne : ∀ b, row = some b → v.ownBlock ≠ some b) : w'.ownsRow base e size v n xs := by
  obtain ⟨h1, h2⟩ := h
  refine ⟨h1, ?_⟩
  rcases h2 with h2 | ⟨g, cap, cur, h3, h4, h5, h6⟩
  · exact .inl h2
  · subst h3
    exact .inr ⟨g, cap, cur, rfl, h4, (hg.block g (lt_at h5) (fun e => hne g e.symm rfl)).trans h5, h6⟩
theorem kb_row {W : World} {bb base n : Nat} {u v x : Value} {xs : List Value} (h : KB W bb u v) (hr : W.ownsRow base 42 1 x n xs) : x.ownBlock ≠ some bb := fun e => by
  obtain ⟨_, cur, h2⟩ := ownsRow_block hr bb e
  have := h.symm.trans h2
  simp only [Option.some.injEq, Obj.cells.injEq] at this
  exact absurd this.2.1 (by decide)
section
variable {base bb k n : Nat} {ad : Option Addr} {l : List Int} {x y : List Value} {u v : Value} {Z : World} {g : Value × Nat × Value} {d6 d7 d8 d11 : Bool} {W : World}
theorem JZ.copy (h : JZ base bb k n ad l x y u v Z g d6 false false d11 W) {V : World} {z : Value} (hb : Below W.heap.size W V) (hx : ∃ a' c', z = .slice a' n c') (ho : V.ownsRow W.heap.size 3 1 z n (cB l)) : JZ base bb k n ad l x y u v Z (z, g.2) true false false d11 V :=
  ⟨(hb.block _ (lt_at h.kb)).trans h.kb, row_below h.r6 hb, row_below h.r7 hb, h.ap, fun _ => ⟨hx, row_base ho h.kp.size⟩, (fun e => by cases e), h.fm, (fun e => by cases e), h.kp.trans (Kp.ofBelow hb), Nat.le_trans h.bz hb.size⟩
theorem JZ.build (h : JZ base bb k n ad l x y u v Z g true d7 d8 d11 W) : JZ base bb k n ad l x y u v Z (g.1, W.heap.size, g.2.2) true true d8 d11 (W.alloc (.cells #[g.1] 42)) := by
  have hb := al1 W (.cells #[g.1] 42)
  have h7 := h.r7
  refine ⟨(hb.block _ (lt_at h.kb)).trans h.kb, row_below h.r6 hb, row_below h7 hb, h.ap, fun q => ⟨(h.cp q).1, row_below (h.cp q).2 hb⟩, fun _ e => ⟨new_at rfl, fun e2 => ?_⟩, h.fm, (fun e => by cases e), h.kp.trans (Kp.ofBelow hb), Nat.le_trans h.bz hb.size⟩
  subst e
  have := (row_lt2 h7 _ e2).2
  exact absurd this (Nat.lt_irrefl _)
theorem row_ty {V V' : World} {b1 b2 n1 n2 : Nat} {a1 a2 : Value} {x1 x2 : List Value} (h1 : V.ownsRow b1 3 1 a1 n1 x1) (h2 : V.ownsRow b2 42 1 a2 n2 x2) (hg : V.grownBy V' a2.ownBlock) : V'.ownsRow b1 3 1 a1 n1 x1 :=
  row_apart2 h1 hg (fun b e e2 => by
    obtain ⟨_, c1, k1⟩ := ownsRow_block h1 b e2
    obtain ⟨_, c2, k2⟩ := ownsRow_block h2 b e
    have := k1.symm.trans k2
    simp only [Option.some.injEq, Obj.cells.injEq] at this
    exact absurd this.2.1 (by decide))
theorem JZ.app (h : JZ base bb k n ad l x y u v Z g true true false false W) (hk : k < 400) (ty : TypeId) : ∃ z V, (Builtin.append_ #[25, 25] ty #[v, .slice (some ⟨g.2.1, 0, none⟩) 1 1]).run Tryd.prog W = .ok z V ∧ JZ base bb k n ad l x y u v Z (g.1, g.2.1, z) true true true false V := by
  obtain ⟨ic, hic, hz0, hz1, hz2⟩ := info_partsS
  obtain ⟨⟨a', c', e1⟩, hcr⟩ := h.cp rfl
  have h6 := h.r6
  obtain ⟨hb1, hb2⟩ := h.bl rfl rfl
  have h7' : W.ownsRow base 42 1 v k y := h.r7
  have hnews : ∀ (j : Nat) (q : Value), [g.1][j]? = some q → W.cell? ((⟨g.2.1, 0, none⟩ : Addr).add j) = some q := by
    intro j q hj
    rw [add_pl, Nat.zero_add, cell_at hb1 j, ← hj]
    simp
  obtain ⟨z, V, hr, h2, h3, _, h5⟩ := run_append_own_at (P := Tryd.prog) W base 25 ty 42 ic _ 1 24 Tryd.underlying25 hic hz0 hz1 hz2 rfl (by decide) v k y h7' ⟨g.2.1, 0, none⟩ 1 1 [g.1] rfl hnews (by rw [e1]; simp [Value.oneCell']) (by unfold maxLen; omega) (by omega) h.bz
  have hapv : ∀ q, u.ownBlock = some q → v.ownBlock ≠ some q := h.ap
  refine ⟨z, V, hr, ⟨(h3.block _ (lt_at h.kb) (fun e => kb_row h.kb h7' e.symm)).trans h.kb, row_apart2 h6 h3 (fun q hq hq2 => hapv q hq2 hq), h2, fun q hq => ?_, fun _ => ⟨⟨a', c', e1⟩, row_ty hcr h7' h3⟩, (fun _ e => by cases e), fun _ => ?_, (fun e => by cases e), h.kp.trans (Kp.grown h3 h7'), Nat.le_trans h.bz h3.size⟩⟩
  · show z.ownBlock ≠ some q
    rcases h5 with h5 | h5
    · rw [h5]; exact hapv q hq
    · rw [h5]
      have := (row_lt2 h6 q hq).2
      simp only [ne_eq, Option.some.injEq]
      omega
  · obtain ⟨a2, c2, e2, _⟩ := ownsRow_form h2
    exact ⟨a2, c2, e2⟩
theorem kb_bytes {W : World} {bb base n : Nat} {u v x : Value} {xs : List Value} (h : KB W bb u v) (hr : W.ownsRow base 3 1 x n xs) : x.ownBlock ≠ some bb := fun e => by
  obtain ⟨_, cur, h2⟩ := ownsRow_block hr bb e
  have := h.symm.trans h2
  simp only [Option.some.injEq, Obj.cells.injEq] at this
  exact absurd this.2.1 (by decide)
theorem JZ.store (h : JZ base bb k n ad l x y u v Z g true true true d11 W) : ∃ V, (Instr.storeAt 25 (.pointer (some ⟨bb, 1, none⟩)) g.2.2).run Tryd.prog W = .ok () V ∧ JZ base bb k n ad l x y u v Z g true true true true V := by
  have h6 := h.r6
  obtain ⟨a2, c2, e2⟩ := h.fm rfl
  have h7' : W.ownsRow base 42 1 g.2.2 (k + 1) (y ++ [g.1]) := h.r7
  have hs := store_kb (a := a2) (n := k + 1) (c := c2) h.kb
  rw [← e2] at hs
  have hcr := (h.cp rfl).2
  exact ⟨_, hs.1, ⟨hs.2, ownsRow_set h6 (fun q hq e => kb_row h.kb h6 (by rw [hq, e])) _, ownsRow_set h7' (fun q hq e => kb_row h.kb h7' (by rw [hq, e])) _, h.ap, fun _ => ⟨(h.cp rfl).1, ownsRow_set hcr (fun q hq e => kb_bytes h.kb hcr (by rw [hq, e])) _⟩, (fun _ e => by cases e), h.fm, (fun e => by cases e), h.kp.trans (Kp.set _), by simpa using h.bz⟩⟩
end
set_option maxHeartbeats 4000000 in
set_option maxRecDepth 100000 in
theorem kints_any {w : World} {base bb k : Nat} {x y : List Value} (h : NKx base bb w k x y) (hbz : base ≤ w.heap.size) (ad : Option Addr) (c : Nat) (l : List Int) (hr : RdB w ad l) (ht : ∀ a, ad = some a → ∃ cur t fz, w.heap[a.block]? = some (.cells cur t fz) ∧ t ≠ 38 ∧ t ≠ 42) (hl : l.length ≤ 1000) (hc : ad = none → c = 0) : Calls Tryd.prog 8 #[.pointer (some ⟨bb, 0, none⟩), .slice ad l.length c] w fun e w' => (∃ v, e = .returned v) ∧ Kp base bb w w' ∧ ((k < 400 ∧ ∃ z, NKx base bb w' (k + 1) (x ++ [.slice ad l.length c]) (y ++ [z]) ∧ w'.ownsRow w.heap.size 3 1 z l.length (cB l)) ∨ (k = 400 ∧ NKx base bb w' k x y)) := by
  have hmx : Tryd.prog.follows .mixedOrders = true := by kernel_rfl
  obtain ⟨ic, hic, hz0, hz1, hz2⟩ := info_partsS
  obtain ⟨u, v, hk, hkb, h6, h7, hap, hbb⟩ := h
  obtain ⟨a6, c6, rfl, _⟩ := ownsRow_form h6
  obtain ⟨a7, c7, rfl, _⟩ := ownsRow_form h7
  have m6 : w.cell? ⟨bb, 0, none⟩ = some (.slice a6 k c6) := (cell_at hkb 0).trans rfl
  by_cases h4 : k < 400
  · have hki : (k : Int) < 400 := by omega
    have z6 := thaw_at hkb 0
    have HKB : Hid (KB w bb (.slice a6 k c6) (.slice a7 k c7)) := hkb
    obtain ⟨n, hn⟩ : ∃ n, l.length = n := ⟨_, rfl⟩
    rw [hn]
    have HN : Hid (l.length = n) := hn
    have HRD : Hid (RdB w ad l) := hr
    have hlb := lt_at hkb
    obtain ⟨XX, hXX⟩ : ∃ XX, x ++ [Value.slice ad n c] = XX := ⟨_, rfl⟩
    have HXX : Hid (x ++ [Value.slice ad n c] = XX) := hXX
    clear hXX
    clear hkb hn hr
    go_enter Tryd.func8, Tryd.ntmps8
    go_wp2_with (at_builtin; refine wpList_append_own_at _ rfl _ _ 25 rfl base 42 ic _ 1 24 Tryd.underlying25 hic hz0 hz1 hz2 rfl (by decide) _ _ _ rfl (h6.alloc _) ⟨w.heap.size, 0, none⟩ 1 1 [_] rfl rfl (one_new _ _ _) (by simp [Value.oneCell']) (by unfold maxLen; omega) (by omega) (by simp; omega) ?_; intro v' w2 hown' hgrow _ hob; obtain ⟨g', cap', rfl⟩ := ownsRow_succ hown'; have hkb2 : KB w2 bb (.slice a6 k c6) (.slice a7 k c7) := (hgrow.block _ (by simp; omega) (fun e => kb_row HKB.out h6 e.symm)).trans (old_at HKB.out); have m62 : w2.cell? ⟨bb, 0, none⟩ = some (.slice a6 k c6) := (cell_at hkb2 0).trans rfl; have z62 := thaw_at hkb2 0)
    have hkb3 : KB (w2.setCell ⟨bb, 0, none⟩ (.slice (some ⟨g', 0, none⟩) (k + 1) cap')) bb (.slice (some ⟨g', 0, none⟩) (k + 1) cap') (.slice a7 k c7) := (heap_setCell_same _ _ 0 _ _ (.slice (some ⟨g', 0, none⟩) (k + 1) cap') hkb2).trans rfl
    have hal1 := al1 w (.cells #[.slice ad n c] 42)
    have h72 : w2.ownsRow base 42 1 (.slice a7 k c7) k y := row_apart2 (h7.alloc _) hgrow (fun b hb hb2 => hap b hb hb2)
    have hkp : Kp base bb w (w2.setCell ⟨bb, 0, none⟩ (.slice (some ⟨g', 0, none⟩) (k + 1) cap')) := ((Kp.ofBelow hal1).trans (Kp.grown hgrow (h6.alloc _))).trans (Kp.set _)
    have hrd : RdB (w2.setCell ⟨bb, 0, none⟩ (.slice (some ⟨g', 0, none⟩) (k + 1) cap')) ad l := by
      intro hne
      obtain ⟨b, off, e, hb, hat⟩ := HRD.out hne
      obtain ⟨cur, ty, fz, ho, hty1, hty2⟩ := ht _ e
      have hb3 := hkp.block b _ ho (fun e2 => by
        subst e2
        have := HKB.out.symm.trans ho
        simp only [Option.some.injEq, Obj.cells.injEq] at this
        exact hty1 this.2.1.symm) (.inr (fun c fz e3 => by
        simp only [Obj.cells.injEq] at e3
        exact hty2 e3.2.1))
      have hb4 : (w2.setCell ⟨bb, 0, none⟩ (.slice (some ⟨g', 0, none⟩) (k + 1) cap')).heap[b]? = w.heap[b]? := hb3.trans ho.symm
      refine ⟨b, off, e, lt_at hb3, fun q x hq => ?_⟩
      exact (World.cell?_of_block (a := ⟨b, _, none⟩) hb4).trans (hat q x hq)
    have hlb7 : ∀ q, (Value.slice a7 k c7).ownBlock = some q → q < w.heap.size := fun q hq => (row_lt2 h7 q hq).2
    have hownX := hown'
    rw [HXX.out] at hownX
    have hj0 : JZ base bb k n ad l XX y (.slice (some ⟨g', 0, none⟩) (k + 1) cap') (.slice a7 k c7) w (undef, 0, undef) false false false false (w2.setCell ⟨bb, 0, none⟩ (.slice (some ⟨g', 0, none⟩) (k + 1) cap')) := ⟨hkb3, ownsRow_set hownX (fun q hq e => kb_row hkb2 hownX (by rw [hq, e])) _, ownsRow_set h72 (fun q hq e => kb_row hkb2 h72 (by rw [hq, e])) _, fun q hq hq2 => (by
      rcases hob with e | e
      · exact hap q (e.symm.trans hq) hq2
      · have h8 := hlb7 q hq2
        rw [e] at hq
        simp at hq
        omega), (fun e => by cases e), (fun e => by cases e), (fun e => by cases e), fun _ => hrd, hkp, by have := hkp.size; omega⟩
    have HL : Hid (l.length ≤ 1000) := hl
    have HC : Hid (ad = none → c = 0) := hc
    clear hkb2 hkb3 h72 hrd hown' hgrow hob m6 z6 m62 z62 h6 h7 hap hkp
    refine wp_region_any hmx ?_
    refine wpAny_tabG (G := (Value × Nat × Value)) (fun g i__ => ([(.pointer (some ⟨bb, 0, none⟩)), (.pointer (some ⟨bb, 0, none⟩)), (.pointer (some ⟨bb, 0, none⟩)), (.pointer (some ⟨bb, 1, none⟩)), (.slice a7 k c7), (.slice ad n c), g.1, (.slice (some ⟨g.2.1, 0, none⟩) 1 1), g.2.2, (.pointer (some ⟨bb, 0, none⟩)), (.pointer (some ⟨bb, 1, none⟩)), undef] : List Value).getD i__ undef) (fun g d W => JZ base bb k n ad l XX y (.slice (some ⟨g', 0, none⟩) (k + 1) cap') (.slice a7 k c7) w g (d 6) (d 7) (d 8) (d 11) W) (by kernel_rfl) ((undef, 0, undef)) (show JZ base bb k n ad l XX y (.slice (some ⟨g', 0, none⟩) (k + 1) cap') (.slice a7 k c7) w (undef, 0, undef) false false false false _ from ⟨hj0.kb, hj0.r6, hj0.r7, hj0.ap, hj0.cp, hj0.bl, hj0.fm, hj0.rd, hj0.kp.trans (Kp.ofBelow (Below.refl _ _).drew), hj0.bz⟩) ?step1 ?fin1
    case step1 =>
      intro i o ho
      have hi : i < 12 := getElem?_lt ho
      match i, hi, ho with
      | 0, _, ho =>
        cases ho
        refine stepG_of (fun g d hdep => ?_)
        exact step_move rfl trivial _ rfl (by kernel_rfl)
      | 1, _, ho =>
        cases ho
        refine stepG_of (fun g d hdep => ?_)
        exact step_move rfl trivial _ rfl (by kernel_rfl)
      | 2, _, ho =>
        cases ho
        refine stepG_of (fun g d hdep => ?_)
        exact step_nilCheck rfl trivial _ _ _ rfl rfl rfl
      | 3, _, ho =>
        cases ho
        refine stepG_of (fun g d hdep => ?_)
        exact step_fieldAddr rfl trivial _ _ _ _ rfl rfl (fun w hw => field_kb w _)
      | 4, _, ho =>
        cases ho
        exact stepG_ofC (fun g d hun hdep hcl => step_load rfl trivial _ _ _ rfl rfl (fun w hw => load_kb (by have h11 : d 11 = false := (by cases h : d 11 with | false => rfl | true => exact absurd (hcl 11 _ rfl h 4 (by kernel_rfl)) (by rw [hun]; simp)); have := hw.kb; rw [h11] at this; exact this)))
      | 5, _, ho =>
        cases ho
        refine stepG_of (fun g d hdep => ?_)
        exact step_move rfl trivial _ rfl (by kernel_rfl)
      | 6, _, ho =>
        cases ho
        exact stepG_append rfl rfl _ _ _ (fun _ => .slice none 0 0) (fun _ => .slice ad n c) rfl (fun g => by kernel_rfl) (fun g => by kernel_rfl) (fun g d W hJ hun hdep hcl => by have h7 : d 7 = false := (by cases h : d 7 with | false => rfl | true => exact absurd (hcl 7 _ rfl h 6 (by kernel_rfl)) (by rw [hun]; simp)); have hJ' := hJ; rw [hun, h7] at hJ'; have hcp := cp_any (c := c) 42 (hJ'.rd rfl) HL.out HC.out; rw [HN.out] at hcp; obtain ⟨v', W', hr, hv, hro, hb⟩ := hcp; refine ⟨(v', g.2), W', hr, (fun j hj => match j, hj with | 6, hj => (by rw [hj] at hun; cases hun)  | 0, _ => rfl | 1, _ => rfl | 2, _ => rfl | 3, _ => rfl | 4, _ => rfl | 5, _ => rfl | 7, _ => rfl | 8, _ => rfl | 9, _ => rfl | 10, _ => rfl | 11, _ => rfl | _ + 12, _ => rfl), ?_⟩; have h8 : d 8 = false := (by cases h : d 8 with | false => rfl | true => exact absurd (hcl 8 _ rfl h 6 (by kernel_rfl)) (by rw [hun]; simp)); show JZ base bb k n ad l XX y _ _ w _ true (d 7) (d 8) (d 11) W'; rw [h7, h8]; rw [h8] at hJ'; exact hJ'.copy hb hv hro)
      | 7, _, ho =>
        cases ho
        exact stepG_buildG rfl rfl _ _ (fun g => g.1) rfl (fun g => by kernel_rfl) (fun g d W hJ hun hdep hcl => by have h6 : d 6 = true := hdep 6 (by kernel_rfl); have hJ' := hJ; rw [h6] at hJ'; obtain ⟨⟨a', c', e1⟩, _⟩ := hJ'.cp rfl; refine ⟨(g.1, W.heap.size, g.2.2), W.alloc (.cells #[g.1] 42), (by rw [e1]; exact bs_bys _ _ _ _), (fun j hj => match j, hj with | 7, hj => (by rw [hj] at hun; cases hun)  | 0, _ => rfl | 1, _ => rfl | 2, _ => rfl | 3, _ => rfl | 4, _ => rfl | 5, _ => rfl | 6, _ => rfl | 8, _ => rfl | 9, _ => rfl | 10, _ => rfl | 11, _ => rfl | _ + 12, _ => rfl), ?_⟩; show JZ base bb k n ad l XX y _ _ w _ (d 6) true (d 8) (d 11) _; rw [h6]; exact hJ'.build)
      | 8, _, ho =>
        cases ho
        exact stepG_append rfl rfl _ _ _ (fun _ => .slice a7 k c7) (fun g => .slice (some ⟨g.2.1, 0, none⟩) 1 1) rfl (fun g => by kernel_rfl) (fun g => by kernel_rfl) (fun g d W hJ hun hdep hcl => by have h7 : d 7 = true := hdep 7 (by kernel_rfl); have h6 : d 6 = true := hdep 6 (by kernel_rfl); have h11 : d 11 = false := (by cases h : d 11 with | false => rfl | true => exact absurd (hcl 11 _ rfl h 8 (by kernel_rfl)) (by rw [hun]; simp)); have hJ' := hJ; rw [h6, h7, hun, h11] at hJ'; obtain ⟨x, V, hr, hA⟩ := hJ'.app h4 25; refine ⟨(g.1, g.2.1, x), V, hr, (fun j hj => match j, hj with | 8, hj => (by rw [hj] at hun; cases hun)  | 0, _ => rfl | 1, _ => rfl | 2, _ => rfl | 3, _ => rfl | 4, _ => rfl | 5, _ => rfl | 6, _ => rfl | 7, _ => rfl | 9, _ => rfl | 10, _ => rfl | 11, _ => rfl | _ + 12, _ => rfl), ?_⟩; show JZ base bb k n ad l XX y _ _ w _ (d 6) (d 7) true (d 11) V; rw [h6, h7, h11]; exact hA)
      | 9, _, ho =>
        cases ho
        refine stepG_of (fun g d hdep => ?_)
        exact step_nilCheck rfl trivial _ _ _ rfl rfl rfl
      | 10, _, ho =>
        cases ho
        refine stepG_of (fun g d hdep => ?_)
        exact step_fieldAddr rfl trivial _ _ _ _ rfl rfl (fun w hw => field_kb w _)
      | 11, _, ho =>
        cases ho
        refine stepG_of (fun g d hdep => ?_)
        exact step_store rfl trivial rfl _ _ _ _ _ rfl rfl rfl (fun W hw => by have h6 : d 6 = true := hdep 6 (by kernel_rfl); have h7 : d 7 = true := hdep 7 (by kernel_rfl); have h8 : d 8 = true := hdep 8 (by kernel_rfl); have hw' := hw; rw [h6, h7, h8] at hw'; obtain ⟨V, hr, hA⟩ := hw'.store; refine ⟨V, hr, ?_⟩; show JZ base bb k n ad l XX y _ _ w _ (d 6) (d 7) (d 8) true V; rw [h6, h7, h8]; exact hA)
    intro g d W hall hW
    first | refine hK _ _ ?_ | refine (‹∀ (a : Act) (w : World), Code.wp Tryd.prog _ _ a w → _›) _ _ ?_ | skip
    simp only [finL, List.getD_cons_zero, List.getD_cons_succ, Nat.zero_add, Nat.reduceAdd, List.setIfInBounds_toArray, List.set_cons_zero, List.set_cons_succ]
    rw [hall 6 (by decide), hall 7 (by decide), hall 8 (by decide), hall 11 (by decide)] at hW
    have HNK : Hid (NKx base bb W (k + 1) XX (y ++ [g.1])) := ⟨_, g.2.2, by omega, hW.kb, hW.r6, hW.r7, hW.ap, hbb⟩
    have HCP : Hid (W.ownsRow w.heap.size 3 1 g.1 n (cB l)) := (hW.cp rfl).2
    have HKP := hW.kp
    clear hW hall hj0 hownX
    go_wp2
    go_end0
    refine ⟨⟨_, rfl⟩, HKP, .inl ⟨h4, g.1, ?_, HCP.out⟩⟩
    rw [HXX.out]
    exact HNK.out
  · have hki : ¬ (k : Int) < 400 := by omega
    have hk4 : k = 400 := by omega
    have HNK : Hid (NKx base bb w k x y) := ⟨_, _, hk, hkb, h6, h7, hap, hbb⟩
    have HK4 : Hid (k = 400) := hk4
    clear hk4
    clear h6 h7 hkb
    go_enter Tryd.func8, Tryd.ntmps8
    go_wp2
    go_end0
    exact ⟨⟨_, rfl⟩, Kp.refl _ _ _, by first | exact .inr ⟨HK4.out, HNK.out⟩ | exact ⟨HK4.out, HNK.out⟩⟩
end Go.Proofs.YtoplegfibdmjeaaDoor
