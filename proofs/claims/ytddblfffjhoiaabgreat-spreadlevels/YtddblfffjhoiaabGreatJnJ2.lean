/- The document's At, Take, News, Suspects: what they answer. -/
import Derived.Test.YtddblfffjhoiaabGreatJnJ1
import Derived.Test.YtddblfffjhoiaabGreatJnJ0
import Derived.Test.YtddblfffjhoiaabGreatRnu
namespace Go.Proofs.YtddblfffjhoiaabGreat
open Go.RowKit Go.Shelf Go.Lib

theorem rank_new {L : List N3} (hb : Bok L) {i : Nat} {o t k : Int} (hx : L[i]? = some (o, t, k)) : decide (rk t k > 0) = pNew (o, t, k) := by
  obtain ⟨h1, h2⟩ := hb i _ hx
  have h2' : rk t k ≠ -1 := h2
  obtain ⟨h3, h4, h5⟩ := rk_ok.1 h2'
  unfold pNew
  by_cases e : (o, t, k) = (o, 0, 1)
  · have e1 := congrArg (fun x : N3 => x.2.1) e
    have e2 := congrArg (fun x : N3 => x.2.2) e
    dsimp only at e1 e2
    subst e1 e2
    rw [show rk 0 1 = 0 by unfold rk; simp]
    simp
  · have hne : ¬ ((o, t, k).1 = o ∧ t = 0 ∧ k = 1) := fun h => e (by rw [h.2.1, h.2.2])
    have : rk t k > 0 := by
      unfold rk
      rw [if_neg (by omega)]
      rcases h5 with rfl | rfl
      · rw [if_pos rfl]; simp at hne; omega
      · rw [if_neg (by decide), if_pos rfl]; omega
    rw [decide_eq_true this, decide_eq_false e]
    rfl
end Go.Proofs.YtddblfffjhoiaabGreat
namespace Go.Proofs.YtddblfffjhoiaabGreat
open Go.RowKit Go.Shelf Go.Lib

/-- What the book of lists holds: of two kinds alone something. -/
def bkc (u v : Value) : Array Value := #[.slice none 0 0, .slice none 0 0, .slice none 0 0, .slice none 0 0, .slice none 0 0, .slice none 0 0, u, v, .slice none 0 0, .slice none 0 0, .slice none 0 0, .slice none 0 0, .slice none 0 0, .slice none 0 0, .slice none 0 0, .slice none 0 0, .slice none 0 0, .slice none 0 0, .slice none 0 0, .slice none 0 0, .slice none 0 0, .slice none 0 0, .slice none 0 0, .slice none 0 0]
def KB (W : World) (bb : Nat) (u v : Value) : Prop := W.heap[bb]? = some (.cells (bkc u v) 49 (0, 0))
/-- Nothing turns but the book of lists and its rows. -/
structure Kp (base bb : Nat) (W V : World) : Prop where
  os : V.os = W.os
  tape : V.tape = W.tape
  output : V.output = W.output
  size : W.heap.size ≤ V.heap.size
  block : ∀ (q : Nat) (o : Obj), W.heap[q]? = some o → q ≠ bb → (q < base ∨ ∀ c fz, o ≠ .cells c 26 fz) → V.heap[q]? = some o
theorem Kp.refl (base bb : Nat) (W : World) : Kp base bb W W := ⟨rfl, rfl, rfl, Nat.le_refl _, fun _ _ h _ _ => h⟩
theorem Kp.trans {base bb : Nat} {U V W : World} (h : Kp base bb U V) (k : Kp base bb V W) : Kp base bb U W :=
  ⟨k.os.trans h.os, k.tape.trans h.tape, k.output.trans h.output, Nat.le_trans h.size k.size, fun q o hq h1 h2 => k.block q o (h.block q o hq h1 h2) h1 h2⟩
theorem Kp.ofBelow {base bb : Nat} {W V : World} (h : Below W.heap.size W V) : Kp base bb W V := ⟨h.os, h.tape, h.output, h.size, fun q _ hq _ _ => (h.block q (lt_at hq)).trans hq⟩
theorem Kp.grown {base bb : Nat} {W V : World} {v : Value} {n : Nat} {xs : List Value} (hg : W.grownBy V v.ownBlock) (hr : W.ownsRow base 26 1 v n xs) : Kp base bb W V := by
  refine ⟨hg.os, hg.tape, hg.output, hg.size, fun q o hq _ h2 => (hg.block q (lt_at hq) (fun e => ?_)).trans hq⟩
  obtain ⟨h3, cur, h4⟩ := ownsRow_block hr q e.symm
  rw [hq] at h4
  obtain rfl := Option.some.inj h4
  rcases h2 with h2 | h2
  · omega
  · exact h2 _ _ rfl
theorem Kp.set {base bb j : Nat} {v : Value} (W : World) : Kp base bb W (W.setCell ⟨bb, j, none⟩ v) := ⟨rfl, rfl, rfl, by simp, fun q _ hq h1 _ => (Below.heap_setCell _ _ _ _ h1).trans hq⟩
theorem Kp.below {base bb : Nat} {w W V : World} (h : Kp base bb W V) (hb : Below base w W) (hbb : base ≤ bb) (hw : base ≤ w.heap.size) : Below base w V :=
  hb.trans ⟨h.os, h.tape, h.output, h.size, fun q hq => by
    have hlt : q < W.heap.size := Nat.lt_of_lt_of_le (Nat.lt_of_lt_of_le hq hw) hb.size
    have := h.block q _ (Array.getElem?_eq_getElem hlt) (by omega) (.inl hq)
    rw [this, Array.getElem?_eq_getElem hlt]⟩
/-- The book of lists: k lists, and their copies. -/
def NKx (base bb : Nat) (W : World) (k : Nat) (x y : List Value) : Prop := ∃ (u v : Value), k ≤ 400 ∧ KB W bb u v ∧ W.ownsRow base 26 1 u k x ∧ W.ownsRow base 26 1 v k y ∧ (∀ q, u.ownBlock = some q → v.ownBlock ≠ some q) ∧ base ≤ bb
theorem row_base {W : World} {base base' : Nat} {e : TypeId} {size : Nat} {v : Value} {n : Nat} {xs : List Value} (h : W.ownsRow base e size v n xs) (hb : base' ≤ base) : W.ownsRow base' e size v n xs := by
  obtain ⟨h1, h2⟩ := h
  refine ⟨h1, ?_⟩
  rcases h2 with h2 | ⟨g, cap, cur, h3, h4, h5⟩
  · exact .inl h2
  · exact .inr ⟨g, cap, cur, h3, Nat.le_trans hb h4, h5⟩
/-- A row of one's own whose block abides. -/
theorem row_at {W V : World} {base : Nat} {e : TypeId} {size : Nat} {v : Value} {n : Nat} {xs : List Value} (h : W.ownsRow base e size v n xs) (hv : ∀ (g : Nat) (cur : Array Value), v.ownBlock = some g → W.heap[g]? = some (.cells cur e (0, 0)) → V.heap[g]? = some (.cells cur e (0, 0))) : V.ownsRow base e size v n xs := by
  obtain ⟨h1, h2⟩ := h
  refine ⟨h1, ?_⟩
  rcases h2 with h2 | ⟨g, cap, cur, h3, h4, h5, h6⟩
  · exact .inl h2
  · subst h3
    exact .inr ⟨g, cap, cur, rfl, h4, hv g cur rfl h5, h6⟩
/-- Blocks in which nothing that is kept lies. -/
abbrev Sg := Nat → Prop
/-- What is kept, and the copies: rows of their own, the kept ones apart from each other. -/
structure Lx (σ : Sg) (base : Nat) (W : World) (x y : List Value) (L : List (List N3)) : Prop where
  ks : ∀ (i : Nat) (l : List N3), L[i]? = some l → ∃ z zc, x[i]? = some z ∧ y[i]? = some zc ∧ W.ownsRow base 61 3 z l.length (fl l) ∧ W.ownsRow base 61 3 zc l.length (fl l) ∧ (∀ g, z.ownBlock = some g → ¬ σ g) ∧ (∀ g, zc.ownBlock = some g → ¬ σ g) ∧ l.length ≤ 100
  lx : x.length = L.length
  ly : y.length = L.length
  ap : ∀ (i j g : Nat) (z z' : Value), x[i]? = some z → x[j]? = some z' → z.ownBlock = some g → z'.ownBlock = some g → i = j
def NK (σ : Sg) (base bb : Nat) (W : World) : Prop := (∀ b, σ b → b < W.heap.size) ∧ ∃ k x y L, NKx base bb W k x y ∧ L.length = k ∧ Lx σ base W x y L
section
variable {σ τ : Sg} {base : Nat} {W V : World} {x y : List Value} {L : List (List N3)}
theorem Lx.carry (h : Lx σ base W x y L) (e : ∀ (g : Nat) (cur : Array Value), ¬ σ g → W.heap[g]? = some (.cells cur 61 (0, 0)) → V.heap[g]? = some (.cells cur 61 (0, 0))) : Lx σ base V x y L := by
  refine ⟨fun i l hl => ?_, h.lx, h.ly, h.ap⟩
  obtain ⟨z, zc, h1, h2, h3, h4, h5, h6, h7⟩ := h.ks i l hl
  exact ⟨z, zc, h1, h2, row_at h3 (fun g cur hg hc => e g cur (h5 g hg) hc), row_at h4 (fun g cur hg hc => e g cur (h6 g hg) hc), h5, h6, h7⟩
/-- Other blocks in which nothing lies. -/
theorem Lx.other (h : Lx σ base W x y L) (e : ∀ (g : Nat) (cur : Array Value), ¬ σ g → W.heap[g]? = some (.cells cur 61 (0, 0)) → ¬ τ g) : Lx τ base W x y L := by
  refine ⟨fun i l hl => ?_, h.lx, h.ly, h.ap⟩
  obtain ⟨z, zc, h1, h2, h3, h4, h5, h6, h7⟩ := h.ks i l hl
  refine ⟨z, zc, h1, h2, h3, h4, fun g hg => ?_, fun g hg => ?_, h7⟩
  · obtain ⟨_, cur, hc⟩ := ownsRow_block h3 g hg
    exact e g cur (h5 g hg) hc
  · obtain ⟨_, cur, hc⟩ := ownsRow_block h4 g hg
    exact e g cur (h6 g hg) hc
/-- A kept list's block is there. -/
theorem Lx.lt (h : Lx σ base W x y L) {i g : Nat} {z : Value} (hz : x[i]? = some z) (hg : z.ownBlock = some g) : g < W.heap.size := by
  have hi : i < L.length := by rw [← h.lx]; exact (List.getElem?_eq_some_iff.1 hz).1
  obtain ⟨z', zc, h1, _, h3, _⟩ := h.ks i _ (List.getElem?_eq_getElem hi)
  rw [hz] at h1
  obtain rfl := Option.some.inj h1
  obtain ⟨_, cur, hc⟩ := ownsRow_block h3 g hg
  exact lt_at hc
theorem get_snoc {α : Type} (a : List α) (b : α) (i : Nat) (c : α) (h : (a ++ [b])[i]? = some c) : (i < a.length ∧ a[i]? = some c) ∨ (i = a.length ∧ c = b) := by
  by_cases hi : i < a.length
  · rw [List.getElem?_append_left hi] at h
    exact .inl ⟨hi, h⟩
  · rw [List.getElem?_append_right (by omega)] at h
    have : i - a.length = 0 := by
      have := (List.getElem?_eq_some_iff.1 h).1
      simp at this
      omega
    rw [this] at h
    simp at h
    exact .inr ⟨by omega, h.symm⟩
/-- One more is kept. -/
theorem Lx.app {z zc : Value} {l : List N3} (h : Lx σ base W x y L) (hz : W.ownsRow base 61 3 z l.length (fl l)) (hc : W.ownsRow base 61 3 zc l.length (fl l)) (h1 : ∀ g, z.ownBlock = some g → ¬ σ g) (h2 : ∀ g, zc.ownBlock = some g → ¬ σ g) (hl : l.length ≤ 100) (hn : ∀ (i g : Nat) (z' : Value), x[i]? = some z' → z.ownBlock = some g → z'.ownBlock ≠ some g) : Lx σ base W (x ++ [z]) (y ++ [zc]) (L ++ [l]) := by
  refine ⟨fun i l' hl' => ?_, by simp [h.lx], by simp [h.ly], fun i j g z1 z2 hi hj e1 e2 => ?_⟩
  · rcases get_snoc _ _ _ _ hl' with ⟨q1, q2⟩ | ⟨q1, q2⟩
    · obtain ⟨z', zc', k1, k2, k3⟩ := h.ks i l' q2
      exact ⟨z', zc', by rw [List.getElem?_append_left (by rw [h.lx]; exact q1)]; exact k1, by rw [List.getElem?_append_left (by rw [h.ly]; exact q1)]; exact k2, k3⟩
    · subst q1
      subst q2
      exact ⟨z, zc, by rw [← h.lx]; simp, by rw [← h.ly]; simp, hz, hc, h1, h2, hl⟩
  · rcases get_snoc _ _ _ _ hi with ⟨a1, a2⟩ | ⟨a1, a2⟩ <;> rcases get_snoc _ _ _ _ hj with ⟨b1, b2⟩ | ⟨b1, b2⟩
    · exact h.ap i j g z1 z2 a2 b2 e1 e2
    · subst b2
      exact absurd e1 (hn i g z1 a2 e2)
    · subst a2
      exact absurd e2 (hn j g z2 b2 e1)
    · omega
end
/-- A new block. -/
def oneMore (σ : Sg) (g : Nat) : Sg := fun b => σ b ∨ b = g
theorem NK.more {σ : Sg} {base bb g : Nat} {W : World} (h : NK σ base bb W) (V : World) (hk : ∀ k x y, NKx base bb W k x y → NKx base bb V k x y) (hb : ∀ k, k < W.heap.size → V.heap[k]? = W.heap[k]?) (hz : W.heap.size ≤ V.heap.size) (h1 : W.heap.size ≤ g) (h2 : g < V.heap.size) : NK (oneMore σ g) base bb V := by
  obtain ⟨hs, k, x, y, L, hx, hl, hL⟩ := h
  refine ⟨fun b hbb => ?_, k, x, y, L, hk _ _ _ hx, hl, (hL.other (τ := oneMore σ g) (fun g' cur h1' h2' q => ?_)).carry (fun g' cur _ hc => (hb g' (lt_at hc)).trans hc)⟩
  · rcases hbb with q | q
    · exact Nat.lt_of_lt_of_le (hs b q) hz
    · omega
  · rcases q with q | q
    · exact h1' q
    · have := lt_at h2'
      omega
theorem NKx.carry {base bb k : Nat} {x y : List Value} {W V : World} (h : NKx base bb W k x y) (hb : Below W.heap.size W V) : NKx base bb V k x y := by
  obtain ⟨u, v, hk, hkb, h6, h7, hap, hbb⟩ := h
  exact ⟨u, v, hk, (hb.block _ (lt_at hkb)).trans hkb, row_below h6 hb, row_below h7 hb, hap, hbb⟩
theorem infoS : (Tryz.prog.info? 26).map (fun i => (i.zero, i.size, i.bytes)) = some (some (.slice none 0 0), 1, 24) := by kernel_rfl
theorem info_partsS : ∃ i, Tryz.prog.info? 26 = some i ∧ i.zero = some (.slice none 0 0) ∧ i.size = 1 ∧ i.bytes = 24 := by
  have h := infoS
  cases hi : Tryz.prog.info? 26 with
  | none => rw [hi] at h; cases h
  | some i =>
    rw [hi] at h
    simp only [Option.map_some, Option.some.injEq, Prod.mk.injEq] at h
    exact ⟨i, rfl, h.1, h.2.1, h.2.2⟩
/-- A list copied behind nothing. -/
theorem cp_any {W : World} {ad : Option Addr} {c : Nat} {l : List N3} (ty : TypeId) (h : RdN W ad l) (hn : l.length ≤ 100) (hc : ad = none → c = 0) : ∃ v' W', (Builtin.append_ #[26, 26] ty #[.slice none 0 0, .slice ad l.length c]).run Tryz.prog W = .ok v' W' ∧ (∃ a' c', v' = .slice a' l.length c') ∧ W'.ownsRow W.heap.size 61 3 v' l.length (fl l) ∧ Below W.heap.size W W' := by
  obtain ⟨ic, hic, hz0, hz1, hz2⟩ := info_partsN
  have hnil := World.ownsRow_nil W W.heap.size 61 3
  cases ad with
  | none =>
    have hl0 : l = [] := by
      cases l with
      | nil => rfl
      | cons x r => obtain ⟨b, off, e, _⟩ := h (by simp); cases e
    subst hl0
    obtain rfl := hc rfl
    have hap := run_append_owned_none (P := Tryz.prog) W W.heap.size 26 ty 61 ic 3 Tryz.underlying26 hic _ _ _ hnil
    exact ⟨_, _, hap, ⟨none, 0, rfl⟩, hnil, Below.refl _ _⟩
  | some a =>
    have hnews : ∀ j u, (fl l)[j]? = some u → W.cell? (a.add j) = some u := by
      intro j u hj
      obtain ⟨b, off, e, _, hat⟩ := h (fun e => by subst e; simp [fl_nil] at hj)
      obtain rfl := Option.some.inj e
      exact nts_src hat j u hj
    obtain ⟨v', W', hr, h2, h3, _, _⟩ := run_append_own_at (P := Tryz.prog) W W.heap.size 26 ty 61 ic _ 3 24 Tryz.underlying26 hic hz0 hz1 hz2 rfl (by decide) (.slice none 0 0) 0 [] hnil a l.length c (fl l) (fl_len l) hnews (fl_one l) (by unfold maxLen; omega) (by omega) (Nat.le_refl _)
    refine ⟨v', W', hr, ?_, by simpa using h2, ⟨h3.os, h3.tape, h3.output, h3.size, fun q hq => h3.block q hq (by simp [Value.ownBlock])⟩⟩
    obtain ⟨ad', cap', e, _⟩ := ownsRow_form h2
    exact ⟨ad', cap', by simpa using e⟩
section
variable {G : Type} {P : Program} {md : Region.Mode} {ops : Array Oper} {Q : Exit → Act → World → Prop} {X0 : Array Value} {val : G → Nat → Value} {J : G → (Nat → Bool) → World → Prop} {i : Nat} {o : Oper}
theorem stepG_buildG (hi : ops[i]? = some o) (hg : o.guard = none) (t : TypeId) (x : Operand) (v : G → Value) (ho : o.op = .buildSlice t 1 #[(0, x)]) (hx : ∀ g, rdo md ops X0 (val g) i o x = some (v g))
    (h : ∀ g d w, J g d w → d i = false → (∀ j, bindsOn md o j = true → d j = true) → (∀ j oj, ops[j]? = some oj → d j = true → ∀ k, bindsOn md oj k = true → d k = true) → ∃ g' w', (Instr.buildSlice t 1 #[(0, v g)]).run P w = .ok (val g' i) w' ∧ (∀ j, d j = true → val g' j = val g j) ∧ J g' (fun j => if j = i then true else d j) w') : StepG P md ops Q X0 val J i o := by
  intro g d a w hJ hun hdep hcl hS
  have hS' : Seen md ops X0 (val g) i o a := hS
  obtain ⟨g', w', h1, h2, h3⟩ := h g d w hJ hun hdep hcl
  unfold wpOp
  rw [hi]
  simp only [Region.wanted, hg, if_true]
  refine .inl ?_
  unfold Oper.wp execOp
  simp only [ho, List.map_toArray, List.map_cons, List.map_nil, hS'.eval (hx g), Sem.run_bind, h1, Result.andThen_ok, Sem.run_pure, Oper.upon_value]
  exact ⟨g', h2, rfl, h3⟩
theorem stepG_append (hi : ops[i]? = some o) (hg : o.guard = none) (t : TypeId) (x y : Operand) (vx vy : G → Value) (ho : o.op = .call { callee := .builtin .append, args := #[x, y], argTypes := #[t, t] }) (hx : ∀ g, rdo md ops X0 (val g) i o x = some (vx g)) (hy : ∀ g, rdo md ops X0 (val g) i o y = some (vy g))
    (h : ∀ g d w, J g d w → d i = false → (∀ j, bindsOn md o j = true → d j = true) → (∀ j oj, ops[j]? = some oj → d j = true → ∀ k, bindsOn md oj k = true → d k = true) → ∃ g' w', (Builtin.append_ #[t, t] o.type #[vx g, vy g]).run P w = .ok (val g' i) w' ∧ (∀ j, d j = true → val g' j = val g j) ∧ J g' (fun j => if j = i then true else d j) w') : StepG P md ops Q X0 val J i o := by
  intro g d a w hJ hun hdep hcl hS
  have hS' : Seen md ops X0 (val g) i o a := hS
  obtain ⟨g', w', h1, h2, h3⟩ := h g d w hJ hun hdep hcl
  unfold wpOp
  rw [hi]
  simp only [Region.wanted, hg, if_true]
  refine .inl ?_
  unfold Oper.wp execOp
  simp only [ho, resolve, invoke, builtin, List.map_toArray, List.map_cons, List.map_nil, hS'.eval (hx g), hS'.eval (hy g), Sem.run_bind, h1, Result.andThen_ok, Sem.run_pure, Oper.upon_value]
  exact ⟨g', h2, rfl, h3⟩
end
theorem bs_nts (W : World) (a : Option Addr) (n c : Nat) : (Instr.buildSlice 22 1 #[(0, .slice a n c)]).run Tryz.prog W = .ok (.slice (some ⟨W.heap.size, 0, none⟩) 1 1) (W.alloc (.cells #[.slice a n c] 26)) := by go_simp
theorem field_kb (W : World) (B : Nat) : (Instr.fieldAt 49 (.pointer (some ⟨B, 0, none⟩)) 7).run Tryz.prog W = .ok (.pointer (some ⟨B, 7, none⟩)) W := by go_simp
theorem load_kb {W : World} {bb n c : Nat} {a : Option Addr} {u : Value} (h : KB W bb u (.slice a n c)) : (Instr.loadAt 22 (.pointer (some ⟨bb, 7, none⟩))).run Tryz.prog W = .ok (.slice a n c) W := by
  have c0 : W.cell? ⟨bb, 7, none⟩ = some (.slice a n c) := (cell_at h 7).trans rfl
  go_simp
theorem store_kb {W : World} {bb n c : Nat} {a : Option Addr} {u v : Value} (h : KB W bb u v) : (Instr.storeAt 22 (.pointer (some ⟨bb, 7, none⟩)) (.slice a n c)).run Tryz.prog W = .ok () (W.setCell ⟨bb, 7, none⟩ (.slice a n c)) ∧ KB (W.setCell ⟨bb, 7, none⟩ (.slice a n c)) bb u (.slice a n c) := by
  have c0 : W.cell? ⟨bb, 7, none⟩ = some v := (cell_at h 7).trans rfl
  have z0 := thaw_at h 7
  refine ⟨by go_simp, ?_⟩
  have := heap_setCell_same _ _ 7 _ _ (.slice a n c) h
  exact this.trans rfl
theorem stepG_ofC {G : Type} {P : Program} {md : Region.Mode} {ops : Array Oper} {Q : Exit → Act → World → Prop} {X0 : Array Value} {val : G → Nat → Value} {J : G → (Nat → Bool) → World → Prop} {i : Nat} {o : Oper}
    (h : ∀ g d, d i = false → (∀ j, bindsOn md o j = true → d j = true) → (∀ j oj, ops[j]? = some oj → d j = true → ∀ k, bindsOn md oj k = true → d k = true) → StepAt P md ops Q X0 (val g) (J g d) (J g (fun j => if j = i then true else d j)) i o) : StepG P md ops Q X0 val J i o := by
  intro g d a w hJ hun hdep hcl hS
  exact wpOp_mono (fun a' w' hq => ⟨g, fun _ _ => rfl, hq.1, hq.2⟩) (h g d hun hdep hcl a w hJ hS)
/-- While the copy is made and kept. -/
structure JZ (base bb k n : Nat) (ad : Option Addr) (l : List N3) (x y : List Value) (u v : Value) (Z : World) (g : Value × Nat × Value) (d6 d7 d8 d11 : Bool) (W : World) : Prop where
  kb : KB W bb u (if d11 = true then g.2.2 else v)
  r6 : W.ownsRow base 26 1 u (k + 1) x
  r7 : W.ownsRow base 26 1 (if d8 = true then g.2.2 else v) (if d8 = true then k + 1 else k) (if d8 = true then y ++ [g.1] else y)
  ap : ∀ q, u.ownBlock = some q → (if d8 = true then g.2.2 else v).ownBlock ≠ some q
  cp : d6 = true → (∃ a' c', g.1 = .slice a' n c') ∧ W.ownsRow Z.heap.size 61 3 g.1 n (fl l)
  bl : d7 = true → d8 = false → W.heap[g.2.1]? = some (.cells #[g.1] 26 (0, 0)) ∧ v.ownBlock ≠ some g.2.1
  fm : d8 = true → ∃ a' c', g.2.2 = .slice a' (k + 1) c'
  rd : d6 = false → RdN W ad l
  kp : Kp base bb Z W
  bz : base ≤ W.heap.size
theorem row_lt2 {w : World} {base : Nat} {e : TypeId} {size : Nat} {v : Value} {n : Nat} {xs : List Value} (h : w.ownsRow base e size v n xs) : ∀ b, v.ownBlock = some b → base ≤ b ∧ b < w.heap.size := fun b hb => by
  obtain ⟨h1, cur, h2⟩ := ownsRow_block h b hb
  exact ⟨h1, lt_at h2⟩
theorem row_apart2 {w w' : World} {base : Nat} {e : TypeId} {size : Nat} {v : Value} {n : Nat} {xs : List Value} {row : Option Nat} (h : w.ownsRow base e size v n xs) (hg : w.grownBy w' row) (hne : ∀ b, row = some b → v.ownBlock ≠ some b) : w'.ownsRow base e size v n xs := by
  obtain ⟨h1, h2⟩ := h
  refine ⟨h1, ?_⟩
  rcases h2 with h2 | ⟨g, cap, cur, h3, h4, h5, h6⟩
  · exact .inl h2
  · subst h3
    exact .inr ⟨g, cap, cur, rfl, h4, (hg.block g (lt_at h5) (fun e => hne g e.symm rfl)).trans h5, h6⟩
theorem kb_row {W : World} {bb base n : Nat} {u v x : Value} {xs : List Value} (h : KB W bb u v) (hr : W.ownsRow base 26 1 x n xs) : x.ownBlock ≠ some bb := fun e => by
  obtain ⟨_, cur, h2⟩ := ownsRow_block hr bb e
  have := h.symm.trans h2
  simp only [Option.some.injEq, Obj.cells.injEq] at this
  exact absurd this.2.1 (by decide)
section
variable {base bb k n : Nat} {ad : Option Addr} {l : List N3} {x y : List Value} {u v : Value} {Z : World} {g : Value × Nat × Value} {d6 d7 d8 d11 : Bool} {W : World}
theorem JZ.copy (h : JZ base bb k n ad l x y u v Z g d6 false false d11 W) {V : World} {z : Value} (hb : Below W.heap.size W V) (hx : ∃ a' c', z = .slice a' n c') (ho : V.ownsRow W.heap.size 61 3 z n (fl l)) : JZ base bb k n ad l x y u v Z (z, g.2) true false false d11 V :=
  ⟨(hb.block _ (lt_at h.kb)).trans h.kb, row_below h.r6 hb, row_below h.r7 hb, h.ap, fun _ => ⟨hx, row_base ho h.kp.size⟩, (fun e => by cases e), h.fm, (fun e => by cases e), h.kp.trans (Kp.ofBelow hb), Nat.le_trans h.bz hb.size⟩
theorem JZ.build (h : JZ base bb k n ad l x y u v Z g true d7 d8 d11 W) : JZ base bb k n ad l x y u v Z (g.1, W.heap.size, g.2.2) true true d8 d11 (W.alloc (.cells #[g.1] 26)) := by
  have hb := al1 W (.cells #[g.1] 26)
  have h7 := h.r7
  refine ⟨(hb.block _ (lt_at h.kb)).trans h.kb, row_below h.r6 hb, row_below h7 hb, h.ap, fun q => ⟨(h.cp q).1, row_below (h.cp q).2 hb⟩, fun _ e => ⟨new_at rfl, fun e2 => ?_⟩, h.fm, (fun e => by cases e), h.kp.trans (Kp.ofBelow hb), Nat.le_trans h.bz hb.size⟩
  subst e
  have := (row_lt2 h7 _ e2).2
  exact absurd this (Nat.lt_irrefl _)
theorem row_ty {V V' : World} {b1 b2 n1 n2 : Nat} {a1 a2 : Value} {x1 x2 : List Value} (h1 : V.ownsRow b1 61 3 a1 n1 x1) (h2 : V.ownsRow b2 26 1 a2 n2 x2) (hg : V.grownBy V' a2.ownBlock) : V'.ownsRow b1 61 3 a1 n1 x1 :=
  row_apart2 h1 hg (fun b e e2 => by
    obtain ⟨_, c1, k1⟩ := ownsRow_block h1 b e2
    obtain ⟨_, c2, k2⟩ := ownsRow_block h2 b e
    have := k1.symm.trans k2
    simp only [Option.some.injEq, Obj.cells.injEq] at this
    exact absurd this.2.1 (by decide))
theorem JZ.app (h : JZ base bb k n ad l x y u v Z g true true false false W) (hk : k < 400) (ty : TypeId) : ∃ z V, (Builtin.append_ #[22, 22] ty #[v, .slice (some ⟨g.2.1, 0, none⟩) 1 1]).run Tryz.prog W = .ok z V ∧ JZ base bb k n ad l x y u v Z (g.1, g.2.1, z) true true true false V := by
  obtain ⟨ic, hic, hz0, hz1, hz2⟩ := info_partsS
  obtain ⟨⟨a', c', e1⟩, hcr⟩ := h.cp rfl
  have h6 := h.r6
  obtain ⟨hb1, hb2⟩ := h.bl rfl rfl
  have h7' : W.ownsRow base 26 1 v k y := h.r7
  have hnews : ∀ (j : Nat) (q : Value), [g.1][j]? = some q → W.cell? ((⟨g.2.1, 0, none⟩ : Addr).add j) = some q := by
    intro j q hj
    rw [add_pl, Nat.zero_add, cell_at hb1 j, ← hj]
    simp
  obtain ⟨z, V, hr, h2, h3, _, h5⟩ := run_append_own_at (P := Tryz.prog) W base 22 ty 26 ic _ 1 24 Tryz.underlying22 hic hz0 hz1 hz2 rfl (by decide) v k y h7' ⟨g.2.1, 0, none⟩ 1 1 [g.1] rfl hnews (by rw [e1]; simp [Value.oneCell']) (by unfold maxLen; omega) (by omega) h.bz
  have hapv : ∀ q, u.ownBlock = some q → v.ownBlock ≠ some q := h.ap
  refine ⟨z, V, hr, ⟨(h3.block _ (lt_at h.kb) (fun e => kb_row h.kb h7' e.symm)).trans h.kb, row_apart2 h6 h3 (fun q hq hq2 => hapv q hq2 hq), h2, fun q hq => ?_, fun _ => ⟨⟨a', c', e1⟩, row_ty hcr h7' h3⟩, (fun _ e => by cases e), fun _ => ?_, (fun e => by cases e), h.kp.trans (Kp.grown h3 h7'), Nat.le_trans h.bz h3.size⟩⟩
  · show z.ownBlock ≠ some q
    rcases h5 with h5 | h5
    · rw [h5]; exact hapv q hq
    · rw [h5]
      have := (row_lt2 h6 q hq).2
      simp only [ne_eq, Option.some.injEq]
      omega
  · obtain ⟨a2, c2, e2, _⟩ := ownsRow_form h2
    exact ⟨a2, c2, e2⟩
theorem kb_notes {W : World} {bb base n : Nat} {u v x : Value} {xs : List Value} (h : KB W bb u v) (hr : W.ownsRow base 61 3 x n xs) : x.ownBlock ≠ some bb := fun e => by
  obtain ⟨_, cur, h2⟩ := ownsRow_block hr bb e
  have := h.symm.trans h2
  simp only [Option.some.injEq, Obj.cells.injEq] at this
  exact absurd this.2.1 (by decide)
theorem JZ.store (h : JZ base bb k n ad l x y u v Z g true true true d11 W) : ∃ V, (Instr.storeAt 22 (.pointer (some ⟨bb, 7, none⟩)) g.2.2).run Tryz.prog W = .ok () V ∧ JZ base bb k n ad l x y u v Z g true true true true V := by
  have h6 := h.r6
  obtain ⟨a2, c2, e2⟩ := h.fm rfl
  have h7' : W.ownsRow base 26 1 g.2.2 (k + 1) (y ++ [g.1]) := h.r7
  have hs := store_kb (a := a2) (n := k + 1) (c := c2) h.kb
  rw [← e2] at hs
  have hcr := (h.cp rfl).2
  exact ⟨_, hs.1, ⟨hs.2, ownsRow_set h6 (fun q hq e => kb_row h.kb h6 (by rw [hq, e])) _, ownsRow_set h7' (fun q hq e => kb_row h.kb h7' (by rw [hq, e])) _, h.ap, fun _ => ⟨(h.cp rfl).1, ownsRow_set hcr (fun q hq e => kb_notes h.kb hcr (by rw [hq, e])) _⟩, (fun _ e => by cases e), h.fm, (fun e => by cases e), h.kp.trans (Kp.set _), by simpa using h.bz⟩⟩
end
set_option maxHeartbeats 4000000 in
set_option maxRecDepth 100000 in
theorem notices_any {w : World} {base bb k : Nat} {x y : List Value} (h : NKx base bb w k x y) (hbz : base ≤ w.heap.size) (ad : Option Addr) (c : Nat) (l : List N3) (hr : RdN w ad l) (ht : ∀ a, ad = some a → ∃ cur fz, w.heap[a.block]? = some (.cells cur 61 fz)) (hl : l.length ≤ 100) (hc : ad = none → c = 0) : Calls Tryz.prog 8 #[.pointer (some ⟨bb, 0, none⟩), .slice ad l.length c] w fun e w' => (∃ v, e = .returned v) ∧ Kp base bb w w' ∧ ((k < 400 ∧ ∃ z, NKx base bb w' (k + 1) (x ++ [.slice ad l.length c]) (y ++ [z]) ∧ w'.ownsRow w.heap.size 61 3 z l.length (fl l)) ∨ (k = 400 ∧ NKx base bb w' k x y)) := by
  have hmx : Tryz.prog.follows .mixedOrders = true := by kernel_rfl
  obtain ⟨ic, hic, hz0, hz1, hz2⟩ := info_partsS
  obtain ⟨u, v, hk, hkb, h6, h7, hap, hbb⟩ := h
  obtain ⟨a6, c6, rfl, _⟩ := ownsRow_form h6
  obtain ⟨a7, c7, rfl, _⟩ := ownsRow_form h7
  have m6 : w.cell? ⟨bb, 6, none⟩ = some (.slice a6 k c6) := (cell_at hkb 6).trans rfl
  by_cases h4 : k < 400
  · have hki : (k : Int) < 400 := by omega
    have z6 := thaw_at hkb 6
    have HKB : Hid (KB w bb (.slice a6 k c6) (.slice a7 k c7)) := hkb
    obtain ⟨n, hn⟩ : ∃ n, l.length = n := ⟨_, rfl⟩
    rw [hn]
    have HN : Hid (l.length = n) := hn
    have HRD : Hid (RdN w ad l) := hr
    have hlb := lt_at hkb
    obtain ⟨XX, hXX⟩ : ∃ XX, x ++ [Value.slice ad n c] = XX := ⟨_, rfl⟩
    have HXX : Hid (x ++ [Value.slice ad n c] = XX) := hXX
    clear hXX
    clear hkb hn hr
    go_enter Tryz.func8, Tryz.ntmps8
    go_wp2_with (at_builtin; refine wpList_append_own_at _ rfl _ _ 22 rfl base 26 ic _ 1 24 Tryz.underlying22 hic hz0 hz1 hz2 rfl (by decide) _ _ _ rfl (h6.alloc _) ⟨w.heap.size, 0, none⟩ 1 1 [_] rfl rfl (one_new _ _ _) (by simp [Value.oneCell']) (by unfold maxLen; omega) (by omega) (by simp; omega) ?_; intro v' w2 hown' hgrow _ hob; obtain ⟨g', cap', rfl⟩ := ownsRow_succ hown'; have hkb2 : KB w2 bb (.slice a6 k c6) (.slice a7 k c7) := (hgrow.block _ (by simp; omega) (fun e => kb_row HKB.out h6 e.symm)).trans (old_at HKB.out); have m62 : w2.cell? ⟨bb, 6, none⟩ = some (.slice a6 k c6) := (cell_at hkb2 6).trans rfl; have z62 := thaw_at hkb2 6)
    have hkb3 : KB (w2.setCell ⟨bb, 6, none⟩ (.slice (some ⟨g', 0, none⟩) (k + 1) cap')) bb (.slice (some ⟨g', 0, none⟩) (k + 1) cap') (.slice a7 k c7) := (heap_setCell_same _ _ 6 _ _ (.slice (some ⟨g', 0, none⟩) (k + 1) cap') hkb2).trans rfl
    have hal1 := al1 w (.cells #[.slice ad n c] 26)
    have h72 : w2.ownsRow base 26 1 (.slice a7 k c7) k y := row_apart2 (h7.alloc _) hgrow (fun b hb hb2 => hap b hb hb2)
    have hkp : Kp base bb w (w2.setCell ⟨bb, 6, none⟩ (.slice (some ⟨g', 0, none⟩) (k + 1) cap')) := ((Kp.ofBelow hal1).trans (Kp.grown hgrow (h6.alloc _))).trans (Kp.set _)
    have hrd : RdN (w2.setCell ⟨bb, 6, none⟩ (.slice (some ⟨g', 0, none⟩) (k + 1) cap')) ad l := by
      intro hne
      obtain ⟨b, off, e, hb, hat⟩ := HRD.out hne
      obtain ⟨cur, fz, ho⟩ := ht _ e
      have hb3 := hkp.block b _ ho (fun e2 => by
        subst e2
        have := HKB.out.symm.trans ho
        simp only [Option.some.injEq, Obj.cells.injEq] at this
        exact absurd this.2.1 (by decide)) (.inr (fun c fz e3 => by
        simp only [Obj.cells.injEq] at e3
        exact absurd e3.2.1 (by decide)))
      have hb4 : (w2.setCell ⟨bb, 6, none⟩ (.slice (some ⟨g', 0, none⟩) (k + 1) cap')).heap[b]? = w.heap[b]? := hb3.trans ho.symm
      refine ⟨b, off, e, lt_at hb3, fun q x hq => ?_⟩
      obtain ⟨c0, c1, c2⟩ := hat q x hq
      exact ⟨(World.cell?_of_block (a := ⟨b, _, none⟩) hb4).trans c0, (World.cell?_of_block (a := ⟨b, _, none⟩) hb4).trans c1, (World.cell?_of_block (a := ⟨b, _, none⟩) hb4).trans c2⟩
    have hlb7 : ∀ q, (Value.slice a7 k c7).ownBlock = some q → q < w.heap.size := fun q hq => (row_lt2 h7 q hq).2
    have hownX := hown'
    rw [HXX.out] at hownX
    have hj0 : JZ base bb k n ad l XX y (.slice (some ⟨g', 0, none⟩) (k + 1) cap') (.slice a7 k c7) w (undef, 0, undef) false false false false (w2.setCell ⟨bb, 6, none⟩ (.slice (some ⟨g', 0, none⟩) (k + 1) cap')) := ⟨hkb3, ownsRow_set hownX (fun q hq e => kb_row hkb2 hownX (by rw [hq, e])) _, ownsRow_set h72 (fun q hq e => kb_row hkb2 h72 (by rw [hq, e])) _, fun q hq hq2 => (by
      rcases hob with e | e
      · exact hap q (e.symm.trans hq) hq2
      · have h8 := hlb7 q hq2
        rw [e] at hq
        simp at hq
        omega), (fun e => by cases e), (fun e => by cases e), (fun e => by cases e), fun _ => hrd, hkp, by have := hkp.size; omega⟩
    have HL : Hid (l.length ≤ 100) := hl
    have HC : Hid (ad = none → c = 0) := hc
    clear hkb2 hkb3 h72 hrd hown' hgrow hob m6 z6 m62 z62 h6 h7 hap hkp
    refine wp_region_any hmx ?_
    refine wpAny_tabG (G := (Value × Nat × Value)) (fun g i__ => ([(.pointer (some ⟨bb, 0, none⟩)), (.pointer (some ⟨bb, 0, none⟩)), (.pointer (some ⟨bb, 0, none⟩)), (.pointer (some ⟨bb, 7, none⟩)), (.slice a7 k c7), (.slice ad n c), g.1, (.slice (some ⟨g.2.1, 0, none⟩) 1 1), g.2.2, (.pointer (some ⟨bb, 0, none⟩)), (.pointer (some ⟨bb, 7, none⟩)), undef] : List Value).getD i__ undef) (fun g d W => JZ base bb k n ad l XX y (.slice (some ⟨g', 0, none⟩) (k + 1) cap') (.slice a7 k c7) w g (d 6) (d 7) (d 8) (d 11) W) (by kernel_rfl) ((undef, 0, undef)) (show JZ base bb k n ad l XX y (.slice (some ⟨g', 0, none⟩) (k + 1) cap') (.slice a7 k c7) w (undef, 0, undef) false false false false _ from ⟨hj0.kb, hj0.r6, hj0.r7, hj0.ap, hj0.cp, hj0.bl, hj0.fm, hj0.rd, hj0.kp.trans (Kp.ofBelow (Below.refl _ _).drew), hj0.bz⟩) ?step2 ?fin2
    case step2 =>
      intro i o ho
      have hi : i < 12 := getElem?_lt ho
      match i, hi, ho with
      | 0, _, ho =>
        cases ho
        refine stepG_of (fun g d hdep => ?_)
        exact step_move rfl trivial _ rfl (by kernel_rfl)
      | 1, _, ho =>
        cases ho
        refine stepG_of (fun g d hdep => ?_)
        exact step_move rfl trivial _ rfl (by kernel_rfl)
      | 2, _, ho =>
        cases ho
        refine stepG_of (fun g d hdep => ?_)
        exact step_nilCheck rfl trivial _ _ _ rfl rfl rfl
      | 3, _, ho =>
        cases ho
        refine stepG_of (fun g d hdep => ?_)
        exact step_fieldAddr rfl trivial _ _ _ _ rfl rfl (fun w hw => field_kb w _)
      | 4, _, ho =>
        cases ho
        exact stepG_ofC (fun g d hun hdep hcl => step_load rfl trivial _ _ _ rfl rfl (fun w hw => load_kb (by have h11 : d 11 = false := (by cases h : d 11 with | false => rfl | true => exact absurd (hcl 11 _ rfl h 4 (by kernel_rfl)) (by rw [hun]; simp)); have := hw.kb; rw [h11] at this; exact this)))
      | 5, _, ho =>
        cases ho
        refine stepG_of (fun g d hdep => ?_)
        exact step_move rfl trivial _ rfl (by kernel_rfl)
      | 6, _, ho =>
        cases ho
        exact stepG_append rfl rfl _ _ _ (fun _ => .slice none 0 0) (fun _ => .slice ad n c) rfl (fun g => by kernel_rfl) (fun g => by kernel_rfl) (fun g d W hJ hun hdep hcl => by have h7 : d 7 = false := (by cases h : d 7 with | false => rfl | true => exact absurd (hcl 7 _ rfl h 6 (by kernel_rfl)) (by rw [hun]; simp)); have hJ' := hJ; rw [hun, h7] at hJ'; have hcp := cp_any (c := c) 26 (hJ'.rd rfl) HL.out HC.out; rw [HN.out] at hcp; obtain ⟨v', W', hr, hv, hro, hb⟩ := hcp; refine ⟨(v', g.2), W', hr, (fun j hj => match j, hj with | 6, hj => (by rw [hj] at hun; cases hun)  | 0, _ => rfl | 1, _ => rfl | 2, _ => rfl | 3, _ => rfl | 4, _ => rfl | 5, _ => rfl | 7, _ => rfl | 8, _ => rfl | 9, _ => rfl | 10, _ => rfl | 11, _ => rfl | _ + 12, _ => rfl), ?_⟩; have h8 : d 8 = false := (by cases h : d 8 with | false => rfl | true => exact absurd (hcl 8 _ rfl h 6 (by kernel_rfl)) (by rw [hun]; simp)); show JZ base bb k n ad l XX y _ _ w _ true (d 7) (d 8) (d 11) W'; rw [h7, h8]; rw [h8] at hJ'; exact hJ'.copy hb hv hro)
      | 7, _, ho =>
        cases ho
        exact stepG_buildG rfl rfl _ _ (fun g => g.1) rfl (fun g => by kernel_rfl) (fun g d W hJ hun hdep hcl => by have h6 : d 6 = true := hdep 6 (by kernel_rfl); have hJ' := hJ; rw [h6] at hJ'; obtain ⟨⟨a', c', e1⟩, _⟩ := hJ'.cp rfl; refine ⟨(g.1, W.heap.size, g.2.2), W.alloc (.cells #[g.1] 26), (by rw [e1]; exact bs_nts _ _ _ _), (fun j hj => match j, hj with | 7, hj => (by rw [hj] at hun; cases hun)  | 0, _ => rfl | 1, _ => rfl | 2, _ => rfl | 3, _ => rfl | 4, _ => rfl | 5, _ => rfl | 6, _ => rfl | 8, _ => rfl | 9, _ => rfl | 10, _ => rfl | 11, _ => rfl | _ + 12, _ => rfl), ?_⟩; show JZ base bb k n ad l XX y _ _ w _ (d 6) true (d 8) (d 11) _; rw [h6]; exact hJ'.build)
      | 8, _, ho =>
        cases ho
        exact stepG_append rfl rfl _ _ _ (fun _ => .slice a7 k c7) (fun g => .slice (some ⟨g.2.1, 0, none⟩) 1 1) rfl (fun g => by kernel_rfl) (fun g => by kernel_rfl) (fun g d W hJ hun hdep hcl => by have h7 : d 7 = true := hdep 7 (by kernel_rfl); have h6 : d 6 = true := hdep 6 (by kernel_rfl); have h11 : d 11 = false := (by cases h : d 11 with | false => rfl | true => exact absurd (hcl 11 _ rfl h 8 (by kernel_rfl)) (by rw [hun]; simp)); have hJ' := hJ; rw [h6, h7, hun, h11] at hJ'; obtain ⟨x, V, hr, hA⟩ := hJ'.app h4 22; refine ⟨(g.1, g.2.1, x), V, hr, (fun j hj => match j, hj with | 8, hj => (by rw [hj] at hun; cases hun)  | 0, _ => rfl | 1, _ => rfl | 2, _ => rfl | 3, _ => rfl | 4, _ => rfl | 5, _ => rfl | 6, _ => rfl | 7, _ => rfl | 9, _ => rfl | 10, _ => rfl | 11, _ => rfl | _ + 12, _ => rfl), ?_⟩; show JZ base bb k n ad l XX y _ _ w _ (d 6) (d 7) true (d 11) V; rw [h6, h7, h11]; exact hA)
      | 9, _, ho =>
        cases ho
        refine stepG_of (fun g d hdep => ?_)
        exact step_nilCheck rfl trivial _ _ _ rfl rfl rfl
      | 10, _, ho =>
        cases ho
        refine stepG_of (fun g d hdep => ?_)
        exact step_fieldAddr rfl trivial _ _ _ _ rfl rfl (fun w hw => field_kb w _)
      | 11, _, ho =>
        cases ho
        refine stepG_of (fun g d hdep => ?_)
        exact step_store rfl trivial rfl _ _ _ _ _ rfl rfl rfl (fun W hw => by have h6 : d 6 = true := hdep 6 (by kernel_rfl); have h7 : d 7 = true := hdep 7 (by kernel_rfl); have h8 : d 8 = true := hdep 8 (by kernel_rfl); have hw' := hw; rw [h6, h7, h8] at hw'; obtain ⟨V, hr, hA⟩ := hw'.store; refine ⟨V, hr, ?_⟩; show JZ base bb k n ad l XX y _ _ w _ (d 6) (d 7) (d 8) true V; rw [h6, h7, h8]; exact hA)
    intro g d W hall hW
    first | refine hK _ _ ?_ | refine (‹∀ (a : Act) (w : World), Code.wp Tryz.prog _ _ a w → _›) _ _ ?_ | skip
    simp only [finL, List.getD_cons_zero, List.getD_cons_succ, Nat.zero_add, Nat.reduceAdd, List.setIfInBounds_toArray, List.set_cons_zero, List.set_cons_succ]
    rw [hall 6 (by decide), hall 7 (by decide), hall 8 (by decide), hall 11 (by decide)] at hW
    have HNK : Hid (NKx base bb W (k + 1) XX (y ++ [g.1])) := ⟨_, g.2.2, by omega, hW.kb, hW.r6, hW.r7, hW.ap, hbb⟩
    have HCP : Hid (W.ownsRow w.heap.size 61 3 g.1 n (fl l)) := (hW.cp rfl).2
    have HKP := hW.kp
    clear hW hall hj0 hownX
    go_wp2
    go_end0
    refine ⟨⟨_, rfl⟩, HKP, .inl ⟨h4, g.1, ?_, HCP.out⟩⟩
    rw [HXX.out]
    exact HNK.out
  · have hki : ¬ (k : Int) < 400 := by omega
    have hk4 : k = 400 := by omega
    have HNK : Hid (NKx base bb w k x y) := ⟨_, _, hk, hkb, h6, h7, hap, hbb⟩
    have HK4 : Hid (k = 400) := hk4
    clear hk4
    clear h6 h7 hkb
    go_enter Tryz.func8, Tryz.ntmps8
    go_wp2
    go_end0
    exact ⟨⟨_, rfl⟩, Kp.refl _ _ _, by first | exact .inr ⟨HK4.out, HNK.out⟩ | exact ⟨HK4.out, HNK.out⟩⟩
/-- A list that was made is kept. -/
theorem kb_any {σ : Sg} {W0 W : World} {base bb : Nat} (h : NK σ base bb W0) (hbz : base ≤ W0.heap.size) (hb : Below W0.heap.size W0 W) (ad : Option Addr) (c : Nat) (l : List N3) (hr : RdN W ad l) (hz : W.ownsRow W0.heap.size 61 3 (.slice ad l.length c) l.length (fl l)) (hl : l.length ≤ 100) (hc : ad = none → c = 0) : Calls Tryz.prog 8 #[.pointer (some ⟨bb, 0, none⟩), .slice ad l.length c] W fun e w' => (∃ v, e = .returned v) ∧ NK σ base bb w' ∧ Kp base bb W w' := by
  obtain ⟨hs, k, x, y, L, hx, hlk, hL⟩ := h
  have hx1 := hx.carry hb
  have hL1 := hL.carry (V := W) (fun g cur _ hg => (hb.block g (lt_at hg)).trans hg)
  have hty : ∀ a, ad = some a → ∃ cur fz, W.heap[a.block]? = some (.cells cur 61 fz) := fun a ha => by
    subst ha
    rcases own_form hz with ⟨q, _⟩ | ⟨g, cap, q, _⟩
    · cases q
    · cases q
      obtain ⟨_, cur, hg⟩ := ownsRow_block hz g rfl
      exact ⟨cur, _, hg⟩
  obtain ⟨u, v, _, hkb, _⟩ := hx1
  refine (notices_any (hx.carry hb) (Nat.le_trans hbz hb.size) ad c l hr hty hl hc).mono ?_
  rintro e w' ⟨h1, h2, h3⟩
  refine ⟨h1, ?_, h2⟩
  have hat : ∀ (g : Nat) (cur : Array Value), W.heap[g]? = some (.cells cur 61 (0, 0)) → w'.heap[g]? = some (.cells cur 61 (0, 0)) := fun g cur hg => h2.block g _ hg (fun e => by
    subst e
    have := hkb.symm.trans hg
    simp only [Option.some.injEq, Obj.cells.injEq] at this
    exact absurd this.2.1 (by decide)) (.inr (fun c fz e3 => by
    simp only [Obj.cells.injEq] at e3
    exact absurd e3.2.1 (by decide)))
  have hL2 := hL1.carry (V := w') (fun g cur _ hg => hat g cur hg)
  have hs' : ∀ b, σ b → b < w'.heap.size := fun b q => Nat.lt_of_lt_of_le (hs b q) (Nat.le_trans hb.size h2.size)
  rcases h3 with ⟨_, z, h3, h4⟩ | ⟨_, h3⟩
  · refine ⟨hs', _, _, _, L ++ [l], h3, by simp [hlk], hL2.app (row_at (row_base hz hbz) (fun g cur _ hg => hat g cur hg)) (row_base h4 (Nat.le_trans hbz hb.size)) (fun g hg q => ?_) (fun g hg q => ?_) hl (fun i g z' hz' e1 e2 => ?_)⟩
    · have := (row_lt2 hz g hg).1
      have := hs g q
      omega
    · have := (row_lt2 h4 g hg).1
      have := hs g q
      have := hb.size
      omega
    · have := (row_lt2 hz g e1).1
      have := hL.lt hz' e2
      omega
  · exact ⟨hs', _, _, _, L, h3, hlk, hL2⟩
end Go.Proofs.YtddblfffjhoiaabGreat
namespace Go.Proofs.YtddblfffjhoiaabGreat
open Go.RowKit Go.Shelf

set_option maxHeartbeats 4000000 in
set_option maxRecDepth 100000 in
theorem same_any (ad ad2 : Option Addr) (cap cap2 : Nat) (l : List (Int × Int × Int)) (w : World) (h : RdN w ad l) (h2 : RdN w ad2 l) (hl : l.length ≤ 6000000000000) : Calls Tryz.prog 9 #[.slice ad l.length cap, .slice ad2 l.length cap2] w fun e w' => e = .returned (.bool true) ∧ Below w.heap.size w w' := by
  have hmx : Tryz.prog.follows .mixedOrders = true := by kernel_rfl
  go_enter Tryz.func9, Tryz.ntmps9
  go_wp2
  go_loopw [5] (fun i wz => ∃ (k : Nat), i = .int .i64 k ∧ k ≤ l.length ∧ Below w.heap.size w wz) (fun i _ => l.length - vnatR i)
  case atStart => exact ⟨0, rfl, Nat.zero_le _, Below.refl _ _⟩
  case round =>
    obtain ⟨k, rfl, hk, hbw⟩ := hrel
    by_cases hkl : k < l.length
    · have hne : l ≠ [] := fun e => by subst e; simp at hkl
      obtain ⟨b, off, e1, hbl, hat⟩ := h.carry hbw hne
      obtain ⟨c, of, e2, hcl, hat2⟩ := h2.carry hbw hne
      subst e1 e2
      have hj : JI w b off l c of l wr := ⟨hbl, hat, hcl, hat2, hbw⟩
      obtain ⟨⟨o, t, q⟩, hx⟩ : ∃ x, l[k]? = some x := ⟨_, List.getElem?_eq_getElem hkl⟩
      have hki : (k : Int) < (l.length : Int) := by omega
      clear hat hat2
      go_wp2
      rename_i Q0 K0 hK
      refine wp_region_any hmx ?_
      refine wpAny_pure (fun i__ => ([(.slice (some ⟨b, off, none⟩) l.length cap), (.int .i64 (k : Int)), (.pointer (some ⟨b, off + k * 3, none⟩)), (nt o t q), (.slice (some ⟨c, of, none⟩) l.length cap2), (.int .i64 (k : Int)), (.pointer (some ⟨c, of + k * 3, none⟩)), (nt o t q), (.bool true), (.bool false)] : List Value).getD i__ undef) (fun W => JI w b off l c of l W) (by kernel_rfl) (hj.carry (Below.refl _ _).drew) ?_ ?_
      · refine (stepsFrom_cons ?_ (stepsFrom_cons ?_ (stepsFrom_cons ?_ (stepsFrom_cons ?_ (stepsFrom_cons ?_ (stepsFrom_cons ?_ (stepsFrom_cons ?_ (stepsFrom_cons ?_ (stepsFrom_cons ?_ (stepsFrom_cons ?_ trivial))))))))))
        · exact step_move rfl trivial _ rfl (by kernel_rfl)
        · exact step_move rfl trivial _ rfl (by kernel_rfl)
        · exact step_indexAddr rfl trivial _ _ _ _ _ rfl rfl rfl (fun w hw => idx_n b off l.length cap k hkl w)
        · exact step_load rfl trivial _ _ _ rfl rfl (fun w hw => load_at hw.at' hx)
        · exact step_move rfl trivial _ rfl (by kernel_rfl)
        · exact step_move rfl trivial _ rfl (by kernel_rfl)
        · exact step_indexAddr rfl trivial _ _ _ _ _ rfl rfl rfl (fun w hw => idx_n c of l.length cap2 k hkl w)
        · exact step_load rfl trivial _ _ _ rfl rfl (fun w hw => load_at hw.at2 hx)
        · exact step_binOp rfl trivial _ _ _ _ _ _ _ rfl rfl rfl (fun w hw => (bin_eqn _ _ _ _ _ _).trans (by simp))
        · exact step_unOp rfl trivial _ _ _ _ rfl rfl (fun w hw => un_not _ w)
      intro W hW
      first | refine hK _ _ ?_ | refine (‹∀ (a : Act) (w : World), Code.wp Tryz.prog _ _ a w → _›) _ _ ?_
      simp only [finL, List.getD_cons_zero, List.getD_cons_succ, Nat.zero_add, Nat.reduceAdd, List.setIfInBounds_toArray, List.set_cons_zero, List.set_cons_succ]
      clear hK
      go_wp2
      go_roundw
      case rel => exact ⟨k + 1, by simp, by omega, hW.below⟩
      case measure => simp [vnatR]; omega
    · have hkk : k = l.length := by omega
      subst hkk
      go_wp2
      go_ret
      exact ⟨rfl, hbw⟩
end Go.Proofs.YtddblfffjhoiaabGreat
namespace Go.Proofs.YtddblfffjhoiaabGreat
open Go.RowKit Go.Shelf Go.Lib

def noS : Sg := fun _ => False
theorem keep_one {W : World} {base bb : Nat} {x y : List Value} {L : List (List N3)} (hx : NKx base bb W L.length x y) (hL : Lx noS base W x y L) (hbz : base ≤ W.heap.size) (hk : L.length < 400) (ad : Option Addr) (c : Nat) (l : List N3) (hr : RdN W ad l) (hz : W.ownsRow base 61 3 (.slice ad l.length c) l.length (fl l)) (hl : l.length ≤ 100) (hc : ad = none → c = 0) (hn : ∀ (i g : Nat) (z' : Value), x[i]? = some z' → (Value.slice ad l.length c).ownBlock = some g → z'.ownBlock ≠ some g) : Calls Tryz.prog 8 #[.pointer (some ⟨bb, 0, none⟩), .slice ad l.length c] W fun e w' => (∃ v, e = .returned v) ∧ (∃ z, NKx base bb w' (L ++ [l]).length (x ++ [.slice ad l.length c]) (y ++ [z]) ∧ Lx noS base w' (x ++ [.slice ad l.length c]) (y ++ [z]) (L ++ [l])) ∧ Kp base bb W w' ∧ (∀ (g : Nat) (cur : Array Value), W.heap[g]? = some (.cells cur 61 (0, 0)) → w'.heap[g]? = some (.cells cur 61 (0, 0))) := by
  have hty : ∀ a, ad = some a → ∃ cur fz, W.heap[a.block]? = some (.cells cur 61 fz) := fun a ha => by
    subst ha
    rcases own_form hz with ⟨q, _⟩ | ⟨g, cap, q, _⟩
    · cases q
    · cases q
      obtain ⟨_, cur, hg⟩ := ownsRow_block hz g rfl
      exact ⟨cur, _, hg⟩
  have hx0 := hx
  obtain ⟨u, v, _, hkb, _⟩ := hx0
  refine (notices_any hx hbz ad c l hr hty hl hc).mono ?_
  rintro e w' ⟨h1, h2, h3⟩
  have hat : ∀ (g : Nat) (cur : Array Value), W.heap[g]? = some (.cells cur 61 (0, 0)) → w'.heap[g]? = some (.cells cur 61 (0, 0)) := fun g cur hg => h2.block g _ hg (fun e => by
    subst e
    have := hkb.symm.trans hg
    simp only [Option.some.injEq, Obj.cells.injEq] at this
    exact absurd this.2.1 (by decide)) (.inr (fun c fz e3 => by
    simp only [Obj.cells.injEq] at e3
    exact absurd e3.2.1 (by decide)))
  refine ⟨h1, ?_, h2, hat⟩
  have hL2 := hL.carry (V := w') (fun g cur _ hg => hat g cur hg)
  rcases h3 with ⟨_, z, h3, h4⟩ | ⟨q, _⟩
  · refine ⟨z, by simpa using h3, hL2.app (row_at hz (fun g cur _ hg => hat g cur hg)) (row_base h4 hbz) (fun g _ q => q) (fun g _ q => q) hl hn⟩
  · omega
theorem nk_of {W : World} {base bb : Nat} {x y : List Value} {L : List (List N3)} (hx : NKx base bb W L.length x y) (hL : Lx noS base W x y L) : NK noS base bb W := ⟨fun _ q => q.elim, _, x, y, L, hx, rfl, hL⟩
theorem made_form {w W : World} {v : Value} {l : List N3} (h : Made w W v l) : ∃ a c, v = .slice a l.length c ∧ W.ownsRow w.heap.size 61 3 (.slice a l.length c) l.length (fl l) ∧ (a = none → c = 0) := by
  have h' : W.ownsRow w.heap.size 61 3 v l.length (fl l) := h
  rcases own_form h' with ⟨e1, e2⟩ | ⟨g, cap, e1, _⟩
  · subst e1
    refine ⟨none, 0, by rw [e2], by rw [e2]; rw [e2] at h'; exact h', fun _ => rfl⟩
  · subst e1
    exact ⟨_, cap, rfl, h', fun e => by cases e⟩
theorem own_rdn {W : World} {base : Nat} {a : Option Addr} {c : Nat} {l : List N3} (h : W.ownsRow base 61 3 (.slice a l.length c) l.length (fl l)) : RdN W a l := by
  intro hne
  rcases own_form h with ⟨_, e2⟩ | ⟨g, cap, e1, _, hlt, _⟩
  · exact absurd (List.length_eq_zero_iff.1 e2) hne
  · cases e1
    exact ⟨g, 0, rfl, hlt, nts_own h rfl⟩
theorem infoR1 : (Tryz.prog.info? 29).map (·.size) = some 1 := by kernel_rfl
theorem rd_row {W : World} {ad : Option Addr} {L : List N3} {b : Nat} (cs : Array Value) (h : RdN W ad L) (hne : ∀ a, ad = some a → a.block ≠ b) : RdN (W.setRow b cs) ad L := fun hl => by
  obtain ⟨bk, off, e, h1, h2⟩ := h hl
  have hn : bk ≠ b := hne _ e
  have q : (W.setRow b cs).heap[bk]? = W.heap[bk]? := setRow_other hn
  refine ⟨bk, off, e, by simpa [World.setRow] using h1, fun k x hx => ?_⟩
  obtain ⟨c0, c1, c2⟩ := h2 k x hx
  exact ⟨(World.cell?_of_block (a := ⟨bk, _, none⟩) q).trans c0, (World.cell?_of_block (a := ⟨bk, _, none⟩) q).trans c1, (World.cell?_of_block (a := ⟨bk, _, none⟩) q).trans c2⟩
theorem bk_row4 {W : World} {p g b : Nat} {l : List N3} {v : Value} (h : Bk W p g l) (hr : RB W b v) (cs : Array Value) : Bk (W.setRow b cs) p g l := by
  have h1 : p ≠ b := fun e => by
    subst e
    have := h.obj.symm.trans hr
    simp only [Option.some.injEq, Obj.cells.injEq] at this
    exact absurd this.2.1 (by decide)
  have h2 : g ≠ b := fun e => by
    subst e
    have := h.row.symm.trans hr
    simp only [Option.some.injEq, Obj.cells.injEq] at this
    exact absurd this.2.1 (by decide)
  exact ⟨(setRow_other h1).trans h.obj, (setRow_other h2).trans h.row⟩
theorem RB.turn {W V : World} {p g b : Nat} {l : List N3} {v : Value} (hr : RB W b v) (h : Bk W p g l) (hg : W.grownBy V (some g)) : RB V b v := by
  refine (hg.block b (lt_at hr) (fun e => ?_)).trans hr
  have e : b = g := by simpa using e
  subst e
  have := h.row.symm.trans hr
  simp only [Option.some.injEq, Obj.cells.injEq] at this
  exact absurd this.2.1 (by decide)
theorem rb_ne {W : World} {b bk : Nat} {v : Value} {cur : Array Value} (hr : RB W b v) (hc : W.heap[bk]? = some (.cells cur 61 (0, 0))) : bk ≠ b := fun e => by
  subst e
  have h1 : W.heap[bk]? = some (.cells #[v] 29 (0, 0)) := hr
  have := h1.symm.trans hc
  simp only [Option.some.injEq, Obj.cells.injEq] at this
  exact absurd this.2.1 (by decide)
end Go.Proofs.YtddblfffjhoiaabGreat
