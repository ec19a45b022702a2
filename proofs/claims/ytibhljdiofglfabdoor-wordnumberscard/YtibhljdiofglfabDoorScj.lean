/- What word.Scan answers: at every text. -/
import Derived.Test.YtibhljdiofglfabDoorScm
import Derived.Test.YtibhljdiofglfabDoorRgi
import Derived.Test.YtibhljdiofglfabDoorAny
import Derived.RangeFuncLeaves
import Derived.RangeFuncBox
import Derived.RangeFuncFrom
namespace Go.Proofs.YtibhljdiofglfabDoor
open Go.RowKit Go.Shelf
attribute [local go_sem] Oper.semAt_some

theorem get_old {w : World} {o o' : Obj} {k : Nat} (h : w.heap[k]? = some o') : (w.alloc o).heap[k]? = some o' := (Below.heap_alloc w o k (Array.getElem?_eq_some_iff.1 h).1).trans h
theorem blk_own {β : Type} (B : Nat) (f : β → Obj) (hc : ∀ s, (f s).isCells = true) : Own (fun s W => W.heap[B]? = some (f s)) := fun s X Y row hs hg hrow => by
  refine (hg.block B (Array.getElem?_eq_some_iff.1 hs).1 (fun e' => ?_)).trans hs
  obtain ⟨o, ho, hcf⟩ := hrow B e'.symm
  rw [hs] at ho
  cases ho
  rw [hc] at hcf
  cases hcf
theorem rowBox_own {β : Type} (n0 B : Nat) (t e : TypeId) (size : Nat) (k : β → Nat) (xs : β → List Value) : Own (fun s W => ∃ v, Boxed W B t v ∧ W.ownsRow n0 e size v (k s) (xs s)) := by
  rintro s X Y row ⟨v, hb, ho⟩ hg hr
  refine ⟨v, boxed_own B t (fun _ : Unit => v) () X Y row hb hg hr, ho.kept hg ?_⟩
  cases hv : v.ownBlock with
  | none => exact .inl rfl
  | some g =>
    refine .inr (fun e' => ?_)
    obtain ⟨o, h1, h2⟩ := hr g e'.symm
    obtain ⟨_, cur, h3⟩ := ownsRow_block ho g hv
    rw [h1] at h3
    cases h3
    cases h2

theorem set_other {W : World} {B B' j : Nat} {v : Value} (h : B ≠ B') : (W.setCell ⟨B', j, none⟩ v).heap[B]? = W.heap[B]? := Below.heap_setCell _ _ _ _ h

/-- What the world is while a line's end is put behind its words. -/
structure JE (N n : Nat) (ln c : Int) (v : Value) (xs : List Value) (W7 : World) (g : Nat × Value) (d6 d7 d8 : Bool) (W : World) : Prop where
  b4 : Boxed W (N + 4) 27 (cond d8 g.2 v)
  b5 : Boxed W (N + 5) 3 (.int .i64 ln)
  row : W.ownsRow (N + 11) 37 4 (cond d7 g.2 v) (cond d7 (n + 1) n) (cond d7 (xs ++ tokC 1 ⟨#[10]⟩ ln c) xs)
  blk : d6 = true → d7 = false → W.heap[g.1]? = some (.cells #[.int .i64 1, .string ⟨#[10]⟩, .int .i64 ln, .int .i64 c] 37)
  tch : TchB (N + 11) (N + 4) W7 W
  sz : N + 11 ≤ W.heap.size
section
variable {N n : Nat} {ln c : Int} {v : Value} {xs : List Value} {W7 : World} {g : Nat × Value} {d6 d7 d8 : Bool} {W : World}
theorem JE.carry (h : JE N n ln c v xs W7 g d6 d7 d8 W) (hB : N + 11 ≤ W7.heap.size) {W' : World} (hb : Below W.heap.size W W') : JE N n ln c v xs W7 g d6 d7 d8 W' :=
  ⟨(hb.block _ h.b4.lt).trans h.b4, (hb.block _ h.b5.lt).trans h.b5, row_below h.row hb, fun e e2 => (hb.block _ (Array.getElem?_eq_some_iff.1 (h.blk e e2)).1).trans (h.blk e e2), h.tch.below hb hB, Nat.le_trans h.sz hb.size⟩
theorem JE.build (h : JE N n ln c v xs W7 g d6 d7 d8 W) (hB : N + 11 ≤ W7.heap.size) : JE N n ln c v xs W7 (W.heap.size, g.2) true d7 d8 (W.alloc (.cells #[.int .i64 1, .string ⟨#[10]⟩, .int .i64 ln, .int .i64 c] 37)) := by
  have h' := h.carry hB ((Below.refl _ W).alloc (Nat.le_refl _) (.cells #[.int .i64 1, .string ⟨#[10]⟩, .int .i64 ln, .int .i64 c] 37))
  exact ⟨h'.b4, h'.b5, h'.row, fun _ _ => get_new rfl, h'.tch, h'.sz⟩
theorem JE.app (h : JE N n ln c v xs W7 g true false false W) (hn : n ≤ 600000) (ty : TypeId) : ∃ v' W', (Builtin.append_ #[27, 27] ty #[v, .slice (some ⟨g.1, 0, none⟩) 1 1]).run Tryd.prog W = .ok v' W' ∧ JE N n ln c v xs W7 (g.1, v') true true false W' := by
  obtain ⟨ic, hic, hz0, hz1, hz2⟩ := info_parts infoTok
  have hnews : ∀ (j : Nat) (u : Value), (tokC 1 ⟨#[10]⟩ ln c)[j]? = some u → W.cell? ((⟨g.1, 0, none⟩ : Addr).add j) = some u := by
    intro j u hj
    have ha : (⟨g.1, 0, none⟩ : Addr).add j = ⟨g.1, j, none⟩ := by unfold Addr.add; split <;> simp_all
    rw [ha, cell_of (h.blk rfl rfl) j, ← hj]
    simp [tokC]
  obtain ⟨v', W', hr, h2, h3, _⟩ := run_append_own (P := Tryd.prog) (w := W) (N + 11) 27 ty 37 ic _ 4 40 Tryd.underlying27 hic hz0 hz1 hz2 rfl (by decide) v n xs h.row ⟨g.1, 0, none⟩ 1 1 (tokC 1 ⟨#[10]⟩ ln c) rfl hnews (by simp [tokC, Value.oneCell']) (by unfold maxLen; omega) (by omega) h.sz
  have hown : ∀ b, v.ownBlock = some b → N + 11 ≤ b := fun b hb => (ownsRow_block h.row b hb).1
  have keep : ∀ q, q < N + 11 → W'.heap[q]? = W.heap[q]? := fun q hq => h3.block q (by have := h.sz; omega) (fun e => by have := hown q e.symm; omega)
  exact ⟨v', W', hr, (keep _ (by omega)).trans h.b4, (keep _ (by omega)).trans h.b5, h2, (fun _ e => by cases e), ⟨h3.os.trans h.tch.os, h3.tape.trans h.tch.tape, h3.output.trans h.tch.output, Nat.le_trans h.tch.size h3.size, fun q hq hb => (keep q hq).trans (h.tch.block q hq hb)⟩, Nat.le_trans h.sz h3.size⟩
theorem JE.store (h : JE N n ln c v xs W7 g true true false W) : JE N n ln c v xs W7 g true true true (W.setCell ⟨N + 4, 0, none⟩ g.2) := by
  refine ⟨h.b4.set _, h.b5.other (by omega) _, ownsRow_setCell_below h.row (by show N + 4 < N + 11; omega) _, (fun _ e => by cases e), ⟨h.tch.os, h.tch.tape, h.tch.output, by have := h.tch.size; simp [World.setCell]; exact this, fun q hq hb => (set_other hb).trans (h.tch.block q hq hb)⟩, by have := h.sz; simp [World.setCell]; exact this⟩
end
/-- What the world is while an error is told. -/
structure JF (N : Nat) (ln e c : Int) (W5 : World) (d4 d5 d6 : Bool) (W : World) : Prop where
  r0 : Boxed W N 27 (.slice none 0 0)
  r1 : Boxed W (N + 1) 22 (.int .i64 (cond d4 e 0))
  r2 : Boxed W (N + 2) 3 (.int .i64 (cond d5 ln 0))
  r3 : Boxed W (N + 3) 3 (.int .i64 (cond d6 c 0))
  b5 : Boxed W (N + 5) 3 (.int .i64 ln)
  bl : Below N W5 W
  up : ∀ q, N + 4 ≤ q → W.heap[q]? = W5.heap[q]?
section
variable {N : Nat} {ln e c : Int} {W5 W : World} {d4 d5 d6 : Bool}
theorem JF.s0 (h : JF N ln e c W5 d4 d5 d6 W) : JF N ln e c W5 d4 d5 d6 (W.setCell ⟨N, 0, none⟩ (.slice none 0 0)) :=
  ⟨h.r0.set _, h.r1.other (by omega) _, h.r2.other (by omega) _, h.r3.other (by omega) _, h.b5.other (by omega) _, h.bl.setCell (p := ⟨N, 0, none⟩) (by simp) _, fun q hq => (set_other (by omega)).trans (h.up q hq)⟩
theorem JF.s1 (h : JF N ln e c W5 d4 d5 d6 W) : JF N ln e c W5 true d5 d6 (W.setCell ⟨N + 1, 0, none⟩ (.int .i64 e)) :=
  ⟨h.r0.other (by omega) _, h.r1.set _, h.r2.other (by omega) _, h.r3.other (by omega) _, h.b5.other (by omega) _, h.bl.setCell (p := ⟨N + 1, 0, none⟩) (by simp) _, fun q hq => (set_other (by omega)).trans (h.up q hq)⟩
theorem JF.s2 (h : JF N ln e c W5 d4 d5 d6 W) : JF N ln e c W5 d4 true d6 (W.setCell ⟨N + 2, 0, none⟩ (.int .i64 ln)) :=
  ⟨h.r0.other (by omega) _, h.r1.other (by omega) _, h.r2.set _, h.r3.other (by omega) _, h.b5.other (by omega) _, h.bl.setCell (p := ⟨N + 2, 0, none⟩) (by simp) _, fun q hq => (set_other (by omega)).trans (h.up q hq)⟩
theorem JF.s3 (h : JF N ln e c W5 d4 d5 d6 W) : JF N ln e c W5 d4 d5 true (W.setCell ⟨N + 3, 0, none⟩ (.int .i64 c)) :=
  ⟨h.r0.other (by omega) _, h.r1.other (by omega) _, h.r2.other (by omega) _, h.r3.set _, h.b5.other (by omega) _, h.bl.setCell (p := ⟨N + 3, 0, none⟩) (by simp) _, fun q hq => (set_other (by omega)).trans (h.up q hq)⟩
end
theorem bs_tok (W : World) (a b c d : Value) : (Instr.buildSlice 27 1 #[(0, .agg #[a, b, c, d])]).run Tryd.prog W = .ok (.slice (some ⟨W.heap.size, 0, none⟩) 1 1) (W.alloc (.cells #[a, b, c, d] 37)) := by
  go_simp
theorem bd_tok (W : World) (a c d : Int) (b : ByteArray) : (Instr.build 37 #[(0, .int .i64 a), (1, .string b), (2, .int .i64 c), (3, .int .i64 d)]).run Tryd.prog W = .ok (.agg #[.int .i64 a, .string b, .int .i64 c, .int .i64 d]) W := by
  go_simp
theorem ld_toks {W : World} {B : Nat} {ad : Option Addr} {n cap : Nat} (h : Boxed W B 27 (.slice ad n cap)) : (Instr.loadAt 27 (.pointer (some ⟨B, 0, none⟩))).run Tryd.prog W = .ok (.slice ad n cap) W := by
  have c0 := h.cell
  go_simp
theorem ld_int {W : World} {B : Nat} {x : Int} (h : Boxed W B 3 (.int .i64 x)) : (Instr.loadAt 3 (.pointer (some ⟨B, 0, none⟩))).run Tryd.prog W = .ok (.int .i64 x) W := by
  have c0 := h.cell
  go_simp
theorem st_any {W : World} {B : Nat} {t : TypeId} {u : Value} (h : Boxed W B t u) (ad : Option Addr) (n cap : Nat) : (Instr.storeAt 27 (.pointer (some ⟨B, 0, none⟩)) (.slice ad n cap)).run Tryd.prog W = .ok () (W.setCell ⟨B, 0, none⟩ (.slice ad n cap)) := by
  have c0 := h.cell
  have f0 := h.frozen
  go_simp
theorem st_int {W : World} {B : Nat} {t : TypeId} {u : Value} (h : Boxed W B t u) (x : Int) : (Instr.storeAt 3 (.pointer (some ⟨B, 0, none⟩)) (.int .i64 x)).run Tryd.prog W = .ok () (W.setCell ⟨B, 0, none⟩ (.int .i64 x)) := by
  have c0 := h.cell
  have f0 := h.frozen
  go_simp
theorem st_err {W : World} {B : Nat} {t : TypeId} {u : Value} (h : Boxed W B t u) (x : Int) : (Instr.storeAt 22 (.pointer (some ⟨B, 0, none⟩)) (.int .i64 x)).run Tryd.prog W = .ok () (W.setCell ⟨B, 0, none⟩ (.int .i64 x)) := by
  have c0 := h.cell
  have f0 := h.frozen
  go_simp
theorem bin_add1 {x y : Operand} {w : World} (a : Nat) (h : a ≤ 1000000) : binRun Tryd.prog .add 3 x y (.int .i64 (a : Int)) (.int .i64 1) w = .ok (.int .i64 ((a + 1 : Nat) : Int)) w := by
  have hw : IntKind.i64.wrap ((a : Int) + 1) = ((a + 1 : Nat) : Int) := by rw [IntKind.wrap_i64]; omega
  simp [binRun, go_sem, hw]
end Go.Proofs.YtibhljdiofglfabDoor
