/- A region that draws its order, in a round too: walked by a statement on what has come up. -/
import Derived.Test.YtngjjcmoekeciaaGreatDoorBas
import Derived.Test.YtngjjcmoekeciaaGreatDoorJnJ10
import Derived.RangeFuncLeaves
import Derived.RangeFuncBox
import Derived.RangeFuncFrom
namespace Go.Proofs.YtngjjcmoekeciaaGreatDoor
open Go.RowKit Go.Shelf

theorem wpAnyIn_inv {F : Fence} {n : Nat} {P : Program} {md : Region.Mode} {ops : Array Oper} {Q : Exit → Act → World → Prop} (St : Nat → Array Bool → Act → World → Prop)
    (h0 : ∀ listed a w, St 0 listed a w → Region.ready md ops listed = [] ∧ Q .normal a w)
    (hs : ∀ k listed a w, St (k + 1) listed a w → (Region.ready md ops listed = [] → Q .normal a w) ∧ ∀ i ∈ Region.ready md ops listed, wpOpIn F n P ops Q i (fun a' w' => St k (listed.setIfInBounds i true) a' w') a w) :
    ∀ (k : Nat) (listed : Array Bool) (a : Act) (w : World), St k listed a w → wpAnyIn F n P md ops Q k listed a w
  | 0, listed, a, w, h => h0 listed a w h
  | k + 1, listed, a, w, h => ⟨(hs k listed a w h).1, fun i hi => wpOpIn_mono (fun a' w' h' => wpAnyIn_inv St h0 hs k _ a' w' h') ((hs k listed a w h).2 i hi)⟩
/-- One for each that has not come up. -/
def fls (b : Bool) : Nat := if b then 0 else 1
end Go.Proofs.YtngjjcmoekeciaaGreatDoor
namespace Go.Proofs.YtngjjcmoekeciaaGreatDoor
open Go.RowKit Go.Shelf
attribute [local go_sem] Oper.semAt_some

theorem get_old {w : World} {o o' : Obj} {k : Nat} (h : w.heap[k]? = some o') : (w.alloc o).heap[k]? = some o' := (Below.heap_alloc w o k (Array.getElem?_eq_some_iff.1 h).1).trans h
theorem blk_own {β : Type} (B : Nat) (f : β → Obj) (hc : ∀ s, (f s).isCells = true) : Own (fun s W => W.heap[B]? = some (f s)) := fun s X Y row hs hg hrow => by
  refine (hg.block B (Array.getElem?_eq_some_iff.1 hs).1 (fun e' => ?_)).trans hs
  obtain ⟨o, ho, hcf⟩ := hrow B e'.symm
  rw [hs] at ho
  cases ho
  rw [hc] at hcf
  cases hcf
theorem rowBox_own {β : Type} (n0 B : Nat) (t e : TypeId) (size : Nat) (k : β → Nat) (xs : β → List Value) : Own (fun s W => ∃ v, Boxed W B t v ∧ W.ownsRow n0 e size v (k s) (xs s)) := by
  rintro s X Y row ⟨v, hb, ho⟩ hg hr
  refine ⟨v, boxed_own B t (fun _ : Unit => v) () X Y row hb hg hr, ho.kept hg ?_⟩
  cases hv : v.ownBlock with
  | none => exact .inl rfl
  | some g =>
    refine .inr (fun e' => ?_)
    obtain ⟨o, h1, h2⟩ := hr g e'.symm
    obtain ⟨_, cur, h3⟩ := ownsRow_block ho g hv
    rw [h1] at h3
    cases h3
    cases h2

theorem set_other {W : World} {B B' j : Nat} {v : Value} (h : B ≠ B') : (W.setCell ⟨B', j, none⟩ v).heap[B]? = W.heap[B]? := Below.heap_setCell _ _ _ _ h

/-- What the world is while a line's end is put behind its words. -/
structure JE (N n : Nat) (ln c : Int) (v : Value) (xs : List Value) (W7 : World) (g : Nat × Value) (d6 d7 d8 : Bool) (W : World) : Prop where
  b4 : Boxed W (N + 4) 39 (cond d8 g.2 v)
  b5 : Boxed W (N + 5) 3 (.int .i64 ln)
  row : W.ownsRow (N + 11) 50 4 (cond d7 g.2 v) (cond d7 (n + 1) n) (cond d7 (xs ++ tokC 1 ⟨#[10]⟩ ln c) xs)
  blk : d6 = true → d7 = false → W.heap[g.1]? = some (.cells #[.int .i64 1, .string ⟨#[10]⟩, .int .i64 ln, .int .i64 c] 50)
  tch : TchB (N + 11) (N + 4) W7 W
  sz : N + 11 ≤ W.heap.size
section
variable {N n : Nat} {ln c : Int} {v : Value} {xs : List Value} {W7 : World} {g : Nat × Value} {d6 d7 d8 : Bool} {W : World}
theorem JE.carry (h : JE N n ln c v xs W7 g d6 d7 d8 W) (hB : N + 11 ≤ W7.heap.size) {W' : World} (hb : Below W.heap.size W W') : JE N n ln c v xs W7 g d6 d7 d8 W' :=
  ⟨(hb.block _ h.b4.lt).trans h.b4, (hb.block _ h.b5.lt).trans h.b5, row_below h.row hb, fun e e2 => (hb.block _ (Array.getElem?_eq_some_iff.1 (h.blk e e2)).1).trans (h.blk e e2), h.tch.below hb hB, Nat.le_trans h.sz hb.size⟩
theorem JE.build (h : JE N n ln c v xs W7 g d6 d7 d8 W) (hB : N + 11 ≤ W7.heap.size) : JE N n ln c v xs W7 (W.heap.size, g.2) true d7 d8 (W.alloc (.cells #[.int .i64 1, .string ⟨#[10]⟩, .int .i64 ln, .int .i64 c] 50)) := by
  have h' := h.carry hB ((Below.refl _ W).alloc (Nat.le_refl _) (.cells #[.int .i64 1, .string ⟨#[10]⟩, .int .i64 ln, .int .i64 c] 50))
  exact ⟨h'.b4, h'.b5, h'.row, fun _ _ => get_new rfl, h'.tch, h'.sz⟩
theorem JE.app (h : JE N n ln c v xs W7 g true false false W) (hn : n ≤ 600000) (ty : TypeId) : ∃ v' W', (Builtin.append_ #[39, 39] ty #[v, .slice (some ⟨g.1, 0, none⟩) 1 1]).run Tryz.prog W = .ok v' W' ∧ JE N n ln c v xs W7 (g.1, v') true true false W' := by
  obtain ⟨ic, hic, hz0, hz1, hz2⟩ := info_parts infoTok
  have hnews : ∀ (j : Nat) (u : Value), (tokC 1 ⟨#[10]⟩ ln c)[j]? = some u → W.cell? ((⟨g.1, 0, none⟩ : Addr).add j) = some u := by
    intro j u hj
    have ha : (⟨g.1, 0, none⟩ : Addr).add j = ⟨g.1, j, none⟩ := by unfold Addr.add; split <;> simp_all
    rw [ha, cell_of (h.blk rfl rfl) j, ← hj]
    simp [tokC]
  obtain ⟨v', W', hr, h2, h3, _⟩ := run_append_own (P := Tryz.prog) (w := W) (N + 11) 39 ty 50 ic _ 4 40 Tryz.underlying39 hic hz0 hz1 hz2 rfl (by decide) v n xs h.row ⟨g.1, 0, none⟩ 1 1 (tokC 1 ⟨#[10]⟩ ln c) rfl hnews (by simp [tokC, Value.oneCell']) (by unfold maxLen; omega) (by omega) h.sz
  have hown : ∀ b, v.ownBlock = some b → N + 11 ≤ b := fun b hb => (ownsRow_block h.row b hb).1
  have keep : ∀ q, q < N + 11 → W'.heap[q]? = W.heap[q]? := fun q hq => h3.block q (by have := h.sz; omega) (fun e => by have := hown q e.symm; omega)
  exact ⟨v', W', hr, (keep _ (by omega)).trans h.b4, (keep _ (by omega)).trans h.b5, h2, (fun _ e => by cases e), ⟨h3.os.trans h.tch.os, h3.tape.trans h.tch.tape, h3.output.trans h.tch.output, Nat.le_trans h.tch.size h3.size, fun q hq hb => (keep q hq).trans (h.tch.block q hq hb)⟩, Nat.le_trans h.sz h3.size⟩
theorem JE.store (h : JE N n ln c v xs W7 g true true false W) : JE N n ln c v xs W7 g true true true (W.setCell ⟨N + 4, 0, none⟩ g.2) := by
  refine ⟨h.b4.set _, h.b5.other (by omega) _, ownsRow_setCell_below h.row (by show N + 4 < N + 11; omega) _, (fun _ e => by cases e), ⟨h.tch.os, h.tch.tape, h.tch.output, by have := h.tch.size; simp [World.setCell]; exact this, fun q hq hb => (set_other hb).trans (h.tch.block q hq hb)⟩, by have := h.sz; simp [World.setCell]; exact this⟩
end
/-- What the world is while an error is told. -/
structure JF (N : Nat) (ln e c : Int) (W5 : World) (d4 d5 d6 : Bool) (W : World) : Prop where
  r0 : Boxed W N 39 (.slice none 0 0)
  r1 : Boxed W (N + 1) 40 (.int .i64 (cond d4 e 0))
  r2 : Boxed W (N + 2) 3 (.int .i64 (cond d5 ln 0))
  r3 : Boxed W (N + 3) 3 (.int .i64 (cond d6 c 0))
  b5 : Boxed W (N + 5) 3 (.int .i64 ln)
  bl : Below N W5 W
  up : ∀ q, N + 4 ≤ q → W.heap[q]? = W5.heap[q]?
section
variable {N : Nat} {ln e c : Int} {W5 W : World} {d4 d5 d6 : Bool}
theorem JF.s0 (h : JF N ln e c W5 d4 d5 d6 W) : JF N ln e c W5 d4 d5 d6 (W.setCell ⟨N, 0, none⟩ (.slice none 0 0)) :=
  ⟨h.r0.set _, h.r1.other (by omega) _, h.r2.other (by omega) _, h.r3.other (by omega) _, h.b5.other (by omega) _, h.bl.setCell (p := ⟨N, 0, none⟩) (by simp) _, fun q hq => (set_other (by omega)).trans (h.up q hq)⟩
theorem JF.s1 (h : JF N ln e c W5 d4 d5 d6 W) : JF N ln e c W5 true d5 d6 (W.setCell ⟨N + 1, 0, none⟩ (.int .i64 e)) :=
  ⟨h.r0.other (by omega) _, h.r1.set _, h.r2.other (by omega) _, h.r3.other (by omega) _, h.b5.other (by omega) _, h.bl.setCell (p := ⟨N + 1, 0, none⟩) (by simp) _, fun q hq => (set_other (by omega)).trans (h.up q hq)⟩
theorem JF.s2 (h : JF N ln e c W5 d4 d5 d6 W) : JF N ln e c W5 d4 true d6 (W.setCell ⟨N + 2, 0, none⟩ (.int .i64 ln)) :=
  ⟨h.r0.other (by omega) _, h.r1.other (by omega) _, h.r2.set _, h.r3.other (by omega) _, h.b5.other (by omega) _, h.bl.setCell (p := ⟨N + 2, 0, none⟩) (by simp) _, fun q hq => (set_other (by omega)).trans (h.up q hq)⟩
theorem JF.s3 (h : JF N ln e c W5 d4 d5 d6 W) : JF N ln e c W5 d4 d5 true (W.setCell ⟨N + 3, 0, none⟩ (.int .i64 c)) :=
  ⟨h.r0.other (by omega) _, h.r1.other (by omega) _, h.r2.other (by omega) _, h.r3.set _, h.b5.other (by omega) _, h.bl.setCell (p := ⟨N + 3, 0, none⟩) (by simp) _, fun q hq => (set_other (by omega)).trans (h.up q hq)⟩
end
theorem bs_tok (W : World) (a b c d : Value) : (Instr.buildSlice 39 1 #[(0, .agg #[a, b, c, d])]).run Tryz.prog W = .ok (.slice (some ⟨W.heap.size, 0, none⟩) 1 1) (W.alloc (.cells #[a, b, c, d] 50)) := by
  go_simp
theorem bd_tok (W : World) (a c d : Int) (b : ByteArray) : (Instr.build 50 #[(0, .int .i64 a), (1, .string b), (2, .int .i64 c), (3, .int .i64 d)]).run Tryz.prog W = .ok (.agg #[.int .i64 a, .string b, .int .i64 c, .int .i64 d]) W := by
  go_simp
theorem ld_toks {W : World} {B : Nat} {ad : Option Addr} {n cap : Nat} (h : Boxed W B 39 (.slice ad n cap)) : (Instr.loadAt 39 (.pointer (some ⟨B, 0, none⟩))).run Tryz.prog W = .ok (.slice ad n cap) W := by
  have c0 := h.cell
  go_simp
theorem ld_int {W : World} {B : Nat} {x : Int} (h : Boxed W B 3 (.int .i64 x)) : (Instr.loadAt 3 (.pointer (some ⟨B, 0, none⟩))).run Tryz.prog W = .ok (.int .i64 x) W := by
  have c0 := h.cell
  go_simp
theorem st_any {W : World} {B : Nat} {t : TypeId} {u : Value} (h : Boxed W B t u) (ad : Option Addr) (n cap : Nat) : (Instr.storeAt 39 (.pointer (some ⟨B, 0, none⟩)) (.slice ad n cap)).run Tryz.prog W = .ok () (W.setCell ⟨B, 0, none⟩ (.slice ad n cap)) := by
  have c0 := h.cell
  have f0 := h.frozen
  go_simp
theorem st_int {W : World} {B : Nat} {t : TypeId} {u : Value} (h : Boxed W B t u) (x : Int) : (Instr.storeAt 3 (.pointer (some ⟨B, 0, none⟩)) (.int .i64 x)).run Tryz.prog W = .ok () (W.setCell ⟨B, 0, none⟩ (.int .i64 x)) := by
  have c0 := h.cell
  have f0 := h.frozen
  go_simp
theorem st_err {W : World} {B : Nat} {t : TypeId} {u : Value} (h : Boxed W B t u) (x : Int) : (Instr.storeAt 40 (.pointer (some ⟨B, 0, none⟩)) (.int .i64 x)).run Tryz.prog W = .ok () (W.setCell ⟨B, 0, none⟩ (.int .i64 x)) := by
  have c0 := h.cell
  have f0 := h.frozen
  go_simp
theorem bin_add1 {x y : Operand} {w : World} (a : Nat) (h : a ≤ 1000000) : binRun Tryz.prog .add 3 x y (.int .i64 (a : Int)) (.int .i64 1) w = .ok (.int .i64 ((a + 1 : Nat) : Int)) w := by
  have hw : IntKind.i64.wrap ((a : Int) + 1) = ((a + 1 : Nat) : Int) := by rw [IntKind.wrap_i64]; omega
  simp [binRun, go_sem, hw]
end Go.Proofs.YtngjjcmoekeciaaGreatDoor
namespace Go.Proofs.YtngjjcmoekeciaaGreatDoor
open Go.RowKit Go.Shelf
attribute [local go_sem] Oper.semAt_some

/-- What Scan answers, and where it lies. -/
def ScV (s : ByteArray) (B : Nat) (e : Ending) (w' : World) : Prop := match badL (linesOf s) with
  | none => ∃ v, e = .returned (.tuple #[v, .int .i64 0, .int .i64 0, .int .i64 0]) ∧ w'.ownsRow B 50 4 v (kkL (linesOf s)) (xxL 0 (linesOf s))
  | some (i, er, c) => e = .returned (.tuple #[.slice none 0 0, .int .i64 er, .int .i64 ((i + 1 : Nat) : Int), .int .i64 c])
theorem stepGI_ofC {G : Type} {F : Fence} {n : Nat} {P : Program} {md : Region.Mode} {ops : Array Oper} {Q : Exit → Act → World → Prop} {X0 : Array Value} {val : G → Nat → Value} {J : G → (Nat → Bool) → World → Prop} {i : Nat} {o : Oper} (h : ∀ g d, d i = false → (∀ j, bindsOn md o j = true → d j = true) → (∀ j oj, ops[j]? = some oj → d j = true → ∀ k, bindsOn md oj k = true → d k = true) → StepAtI F n P md ops Q X0 (val g) (J g d) (J g (fun j => if j = i then true else d j)) i o) : StepGI F n P md ops Q X0 val J i o := by
  intro g d a w hJ hun hdep hcl hS
  exact wpOpIn_mono (fun a' w' hq => ⟨g, fun _ _ => rfl, hq.1, hq.2⟩) (h g d hun hdep hcl a w hJ hS)
theorem row_setB {w : World} {base : Nat} {e : TypeId} {size : Nat} {v : Value} {n : Nat} {xs : List Value} {b : Nat} (h : w.ownsRow base e size v n xs) (hb : b < base) (u : Value) : (w.setCell ⟨b, 0, none⟩ u).ownsRow base e size v n xs := ownsRow_setCell_below h (by exact hb) u
set_option maxHeartbeats 8000000 in
set_option maxRecDepth 100000 in
theorem scan_in (s : ByteArray) (hs : s.size ≤ 65536) (w : World) :
    CallsIn Fence.wide 0 Tryz.prog 5 #[.string s] w fun e w' => ScV s w.heap.size e w' ∧ Below w.heap.size w w' := by
  have hmx : Tryz.prog.follows .mixedOrders = true := by kernel_rfl
  have hgt : decide (65536 < (s.size : Int)) = false := by simp; omega
  refine callsIn_of_wp_marks Tryz.func5 rfl trivial ?_ rfl
  simp only [Tryz.ntmps5, List.size_toArray, List.length_cons, List.length_nil, Nat.reduceAdd, Nat.reduceSub, Array.replicate_succ, Array.replicate_zero, List.push_toArray, List.append_toArray, List.nil_append, List.cons_append]
  gi_wp2_with (with_reducible (refine And.intro (wfn _) (And.intro wdep ?_)); gi_at_call 14; refine (callsIn_wide.2 (split_any s _)).mono ?_; rintro e w' ⟨rfl, hw9⟩; rw [hw9]; clear hw9)
  generalize hW0 : (World.alloc (World.alloc (World.alloc _ _) _) (.cells #[.int .i64 0] 3)) = W0
  simp only [Nat.add_assoc, Nat.reduceAdd]
  have z0 : W0.heap.size = w.heap.size + 9 := by rw [← hW0]; simp
  have b0 : Below w.heap.size w W0 := by
    rw [← hW0]
    exact (((((((((Below.refl _ w).alloc (by simp) _).alloc (by simp) _).alloc (by simp; omega) _).alloc (by simp; omega) _).alloc (by simp; omega) _).alloc (by simp; omega) _).alloc (by simp; omega) _).alloc (by simp; omega) _).alloc (by simp; omega) _
  have x0 : W0.heap[w.heap.size]? = some (.cells #[.slice none 0 0] 39) := by rw [← hW0]; exact get_old (get_old (get_old (get_old (get_old (get_old (get_old (get_old (get_new (by simp)))))))))
  have x1 : W0.heap[w.heap.size + 1]? = some (.cells #[.int .i64 0] 40) := by rw [← hW0]; exact get_old (get_old (get_old (get_old (get_old (get_old (get_old (get_new (by simp))))))))
  have x2 : W0.heap[w.heap.size + 2]? = some (.cells #[.int .i64 0] 3) := by rw [← hW0]; exact get_old (get_old (get_old (get_old (get_old (get_old (get_new (by simp)))))))
  have x3 : W0.heap[w.heap.size + 3]? = some (.cells #[.int .i64 0] 3) := by rw [← hW0]; exact get_old (get_old (get_old (get_old (get_old (get_new (by simp))))))
  have x4 : W0.heap[w.heap.size + 4]? = some (.cells #[.slice none 0 0] 39) := by rw [← hW0]; exact get_old (get_old (get_old (get_old (get_new (by simp)))))
  have x5 : W0.heap[w.heap.size + 5]? = some (.cells #[.int .i64 0] 3) := by rw [← hW0]; exact get_old (get_old (get_old (get_new (by simp))))
  have x6 : W0.heap[w.heap.size + 6]? = some (.cells #[.string s] 9) := by rw [← hW0]; exact get_old (get_old (get_new (by simp)))
  have x7 : W0.heap[w.heap.size + 7]? = some (.cells #[.string ⟨#[10]⟩] 9) := by rw [← hW0]; exact get_old (get_new (by simp))
  have x8 : W0.heap[w.heap.size + 8]? = some (.cells #[.int .i64 0] 3) := by rw [← hW0]; exact get_new (by simp)
  clear hW0
  refine wp_rangeW (kb := 0) (gf := 105) (lb := #[.pointer (some ⟨w.heap.size + 7, 0, none⟩), .pointer (some ⟨w.heap.size + 6, 0, none⟩), .pointer (some ⟨w.heap.size + 8, 0, none⟩)]) rfl (enters_of Tryz.func105 (by kernel_rfl) rfl)
    (splitW_seq s hs (w.heap.size + 6) _ x6 x7 x8) (by omega) (by omega) (fun _ => rfl)
    (fun pre W => (∃ v, Boxed W (w.heap.size + 4) 39 v ∧ W.ownsRow (w.heap.size + 11) 50 4 v (kkL pre) (xxL 0 pre)) ∧ W.heap[w.heap.size + 5]? = some (.cells #[.int .i64 (pre.length : Nat)] 3) ∧ W.heap[w.heap.size]? = some (.cells #[.slice none 0 0] 39) ∧ W.heap[w.heap.size + 1]? = some (.cells #[.int .i64 0] 40) ∧ W.heap[w.heap.size + 2]? = some (.cells #[.int .i64 0] 3) ∧ W.heap[w.heap.size + 3]? = some (.cells #[.int .i64 0] 3) ∧ Below w.heap.size w W ∧ badL pre = none)
    (fun c pre W => c = .ret ∧ ∃ i er co, badL pre = some (i, er, co) ∧ W.heap[w.heap.size]? = some (.cells #[.slice none 0 0] 39) ∧ W.heap[w.heap.size + 1]? = some (.cells #[.int .i64 (er : Nat)] 40) ∧ W.heap[w.heap.size + 2]? = some (.cells #[.int .i64 ((i + 1 : Nat) : Int)] 3) ∧ W.heap[w.heap.size + 3]? = some (.cells #[.int .i64 (co : Nat)] 3) ∧ Below w.heap.size w W)
    ?own ?ownx
    ⟨⟨_, x4, World.ownsRow_nil _ _ _ _⟩, x5, x0, x1, x2, x3, b0, rfl⟩ ?wr
    (fun x a' _ => a' = { tmps := #[.string s, undef, .pointer (some ⟨w.heap.size, 0, none⟩), .pointer (some ⟨w.heap.size + 1, 0, none⟩), .pointer (some ⟨w.heap.size + 2, 0, none⟩), .pointer (some ⟨w.heap.size + 3, 0, none⟩), .pointer (some ⟨w.heap.size + 4, 0, none⟩), .pointer (some ⟨w.heap.size + 5, 0, none⟩), .string x, undef, undef, undef, .string s, .int .i64 s.size, .bool false, .string s, .func (.func 105) #[] #[.pointer (some ⟨w.heap.size + 7, 0, none⟩), .pointer (some ⟨w.heap.size + 6, 0, none⟩), .pointer (some ⟨w.heap.size + 8, 0, none⟩)], .string x, undef, undef, undef, undef, undef, undef, undef, undef, undef, undef, undef, undef, undef, undef, undef, undef, undef, undef, undef, undef, undef, undef, undef, undef, undef, undef, undef, undef], defers := [] })
    ?ax ?assign ?body ?done ?stop
  case ax =>
    intro x a' _ X Y row h hg hr
    exact h
  case wr =>
    rintro pre W v ⟨⟨v4, hv, hrow⟩, h5, h0, h1, h2, h3, hb, hgood⟩
    exact ⟨⟨v4, hv.other (by omega) _, row_setB hrow (by omega) _⟩, (set_other (by omega)).trans h5, (set_other (by omega)).trans h0, (set_other (by omega)).trans h1, (set_other (by omega)).trans h2, (set_other (by omega)).trans h3, hb.setCell (p := ⟨w.heap.size + 6, 0, none⟩) (by simp) _, hgood⟩
  case own =>
    intro pre X Y row ⟨h4, h5, h0, h1, h2, h3, hb, hgood⟩ hg hr
    have hr' : ∀ r, row = some r → ∃ o : Obj, X.heap[r]? = some o ∧ o.isCells = false := fun r e => (hr r e).2
    refine ⟨rowBox_own _ _ _ _ _ kkL (xxL 0) pre X Y row h4 hg hr', blk_own (w.heap.size + 5) (fun pre : List ByteArray => .cells #[.int .i64 (pre.length : Nat)] 3) (fun _ => rfl) pre X Y row h5 hg hr', blk_own w.heap.size (fun _ : List ByteArray => .cells #[.slice none 0 0] 39) (fun _ => rfl) pre X Y row h0 hg hr', blk_own (w.heap.size + 1) (fun _ : List ByteArray => .cells #[.int .i64 0] 40) (fun _ => rfl) pre X Y row h1 hg hr', blk_own (w.heap.size + 2) (fun _ : List ByteArray => .cells #[.int .i64 0] 3) (fun _ => rfl) pre X Y row h2 hg hr', blk_own (w.heap.size + 3) (fun _ : List ByteArray => .cells #[.int .i64 0] 3) (fun _ => rfl) pre X Y row h3 hg hr', ?_, hgood⟩
    exact hb.grown hg hb.size (fun k e => by have := (hr k e).1; omega)
  case ownx =>
    intro c pre X Y row ⟨hc, i, er, co, hbad, h0, h1, h2, h3, hb⟩ hg hr
    have hr' : ∀ r, row = some r → ∃ o : Obj, X.heap[r]? = some o ∧ o.isCells = false := fun r e => (hr r e).2
    refine ⟨hc, i, er, co, hbad, blk_own w.heap.size (fun _ : List ByteArray => .cells #[.slice none 0 0] 39) (fun _ => rfl) pre X Y row h0 hg hr', blk_own (w.heap.size + 1) (fun _ : List ByteArray => .cells #[.int .i64 (er : Nat)] 40) (fun _ => rfl) pre X Y row h1 hg hr', blk_own (w.heap.size + 2) (fun _ : List ByteArray => .cells #[.int .i64 ((i + 1 : Nat) : Int)] 3) (fun _ => rfl) pre X Y row h2 hg hr', blk_own (w.heap.size + 3) (fun _ : List ByteArray => .cells #[.int .i64 (co : Nat)] 3) (fun _ => rfl) pre X Y row h3 hg hr', ?_⟩
    exact hb.grown hg hb.size (fun k e => by have := (hr k e).1; omega)
  case assign =>
    rintro l pre x W K hI hsz hK
    gi_wp2
    exact hK _ _ (KeptW.refl _ _ _ _ _) hI rfl
  case body =>
    rintro l pre x a' W ⟨⟨v, hv, hrow⟩, h5, h0, h1, h2, h3, hb, hgood⟩ rfl hsz hpr
    obtain ⟨hxs, hpl⟩ := line_size hpr
    have hkk := kk_pre ((List.prefix_append pre [x]).trans hpr)
    obtain ⟨ad0, cap0, rfl, _⟩ := ownsRow_form hrow
    have h5b : Boxed W (w.heap.size + 5) 3 (.int .i64 (pre.length : Nat)) := h5
    have c4 := hv.cell
    have c5 := h5b.cell
    have f5 := h5b.frozen
    have hwn : IntKind.i64.wrap ((pre.length : Int) + 1) = ((pre.length + 1 : Nat) : Int) := by rw [IntKind.wrap_i64]; omega
    have hsn := badL_snoc x pre hgood
    have hxx := xxL_snoc x 0 pre
    have hkx := kkL_snoc x pre
    rw [Nat.zero_add] at hxx
    generalize hln : pre.length + 1 = ln at *
    have k5 : Boxed (W.setCell ⟨w.heap.size + 5, 0, none⟩ (.int .i64 (ln : Nat))) (w.heap.size + 5) 3 (.int .i64 (ln : Nat)) := h5b.set _
    have k4 : Boxed (W.setCell ⟨w.heap.size + 5, 0, none⟩ (.int .i64 (ln : Nat))) (w.heap.size + 4) 39 _ := hv.other (by omega) (.int .i64 (ln : Nat))
    have c4b := k4.cell
    have hrow7 := row_setB (b := w.heap.size + 5) hrow (by omega) (.int .i64 (ln : Nat))
    have hcut := cutS_any x (by omega) (w.heap.size + 11) (w.heap.size + 5) (w.heap.size + 4) (ln : Nat) _ (kkL pre) (xxL 0 pre) _ k5 k4 hrow7 (by omega) (by simp [World.setCell]; omega) (by omega) (by omega) (by omega)
    have HZ : Hid (∀ q, q ≠ w.heap.size + 5 → (W.setCell ⟨w.heap.size + 5, 0, none⟩ (.int .i64 (ln : Nat))).heap[q]? = W.heap[q]?) := fun q hq => set_other hq
    have HB7 : Hid (Below w.heap.size w (W.setCell ⟨w.heap.size + 5, 0, none⟩ (.int .i64 (ln : Nat)))) := hb.setCell (p := ⟨w.heap.size + 5, 0, none⟩) (by simp) _
    have hz7 : (W.setCell ⟨w.heap.size + 5, 0, none⟩ (.int .i64 (ln : Nat))).heap.size = W.heap.size := by simp [World.setCell]
    generalize hW7 : W.setCell ⟨w.heap.size + 5, 0, none⟩ (.int .i64 (ln : Nat)) = W7 at *
    gi_wp2
    refine And.intro (wfn _) (And.intro wdep ?_)
    refine (CallsIn.inRound l (callsIn_wide.2 hcut)).mono ?_
    rintro e W5 ⟨rfl, v5, hb5, hr5, ht5⟩
    obtain ⟨ad5, cap5, rfl, _⟩ := ownsRow_form hr5
    have hK5 : ∀ q, q < w.heap.size + 11 → q ≠ w.heap.size + 4 → q ≠ w.heap.size + 5 → W5.heap[q]? = W.heap[q]? := fun q a b c => (ht5.block q a b).trans (HZ.out q c)
    have k55 : Boxed W5 (w.heap.size + 5) 3 (.int .i64 (ln : Nat)) := (ht5.block (w.heap.size + 5) (by omega) (by omega)).trans k5
    have hz5 := ht5.size
    have hB5 : Below w.heap.size w W5 := ⟨ht5.os.trans HB7.out.os, ht5.tape.trans HB7.out.tape, ht5.output.trans HB7.out.output, Nat.le_trans HB7.out.size ht5.size, fun k hk => (ht5.block k (by omega) (by omega)).trans (HB7.out.block k hk)⟩
    have q0 := (hK5 w.heap.size (by omega) (by omega) (by omega)).trans h0
    have q1 := (hK5 (w.heap.size + 1) (by omega) (by omega) (by omega)).trans h1
    have q2 := (hK5 (w.heap.size + 2) (by omega) (by omega) (by omega)).trans h2
    have q3 := (hK5 (w.heap.size + 3) (by omega) (by omega) (by omega)).trans h3
    have HT : Hid (∀ Wf, TchB (w.heap.size + 11) (w.heap.size + 4) W7 Wf → KeptW (w.heap.size + 6) 3 W0.heap.size (0 + 2) W Wf ∧ Below w.heap.size w Wf ∧ ∀ q, q < w.heap.size + 4 → Wf.heap[q]? = W.heap[q]?) := fun Wf ht =>
      ⟨⟨by have := ht.size; omega, fun k a b => (ht.block k (by omega) (by omega)).trans (HZ.out k (by omega)), fun k a b => (ht.block k (by omega) (by omega)).trans (HZ.out k (by omega))⟩, ⟨ht.os.trans HB7.out.os, ht.tape.trans HB7.out.tape, ht.output.trans HB7.out.output, Nat.le_trans HB7.out.size ht.size, fun k hk => (ht.block k (by omega) (by omega)).trans (HB7.out.block k hk)⟩, fun q hq => (ht.block q (by omega) (by omega)).trans (HZ.out q (by omega))⟩
    have HH : Hid (W.heap[w.heap.size]? = some (.cells #[.slice none 0 0] 39) ∧ W.heap[w.heap.size + 1]? = some (.cells #[.int .i64 0] 40) ∧ W.heap[w.heap.size + 2]? = some (.cells #[.int .i64 0] 3) ∧ W.heap[w.heap.size + 3]? = some (.cells #[.int .i64 0] 3)) := ⟨h0, h1, h2, h3⟩
    have hKW : KeptW (w.heap.size + 6) 3 W0.heap.size (0 + 2) W W5 := ⟨by omega, fun k a b => hK5 k (by omega) (by omega) (by omega), fun k a b => hK5 k (by omega) (by omega) (by omega)⟩
    have hlT : lineT ln x = if (cutR x).1.length = 0 then [] else flatT ln (cutR x).1 ++ tokC 1 ⟨#[10]⟩ ln (((starts x).length + 1 : Nat) : Int) := rfl
    have hlN : lineN x = if (cutR x).1.length = 0 then 0 else (cutR x).1.length + 1 := rfl
    have htl := cutR_len x
    have hcl := starts_length x
    have hct := count_any x (by unfold maxLen; omega)
    generalize cutR x = R at *
    obtain ⟨tk, er, co⟩ := R
    dsimp only at hsn hr5 hlT hlN htl hb5
    have HG : Hid (badL (pre ++ [x]) = if er ≠ 0 then some (pre.length, er, co) else none) := hsn
    have HXX : Hid (xxL 0 (pre ++ [x]) = xxL 0 pre ++ lineT ln x) := hxx
    have HKX : Hid (kkL (pre ++ [x]) = kkL pre + lineN x) := hkx
    have HLT : Hid (lineT ln x = if tk.length = 0 then [] else flatT ln tk ++ tokC 1 ⟨#[10]⟩ ln (((starts x).length + 1 : Nat) : Int)) := hlT
    have HLN : Hid (lineN x = if tk.length = 0 then 0 else tk.length + 1) := hlN
    have HQ : Hid (W5.heap[w.heap.size]? = some (.cells #[.slice none 0 0] 39) ∧ W5.heap[w.heap.size + 1]? = some (.cells #[.int .i64 0] 40) ∧ W5.heap[w.heap.size + 2]? = some (.cells #[.int .i64 0] 3) ∧ W5.heap[w.heap.size + 3]? = some (.cells #[.int .i64 0] 3)) := ⟨q0, q1, q2, q3⟩
    have HKW : Hid (KeptW (w.heap.size + 6) 3 W0.heap.size (0 + 2) W W5) := hKW
    have HB5 : Hid (Below w.heap.size w W5) := hB5
    clear hsn hxx hkx hlT hlN q0 q1 q2 q3 hKW hB5 hK5 h0 h1 h2 h3 hcut
    have c45 := hb5.cell
    have c55 := k55.cell
    by_cases her : er = 0
    · subst her
      by_cases ht0 : tk.length = 0
      · have htk : tk = [] := List.length_eq_zero_iff.1 ht0
        subst htk
        have hge : ¬ ((kkL pre : Nat) : Int) < ((kkL pre : Nat) : Int) := by omega
        simp only [List.length_nil, Nat.add_zero, flatT, List.append_nil] at hr5 hb5 c45
        gi_wp2
        refine ⟨HKW.out, ⟨_, hb5, ?_⟩, ?_, HQ.out.1, HQ.out.2.1, HQ.out.2.2.1, HQ.out.2.2.2, HB5.out, ?_⟩
        · rw [HKX.out, HXX.out, HLT.out, HLN.out, if_pos (by rfl), if_pos (by rfl), List.append_nil, Nat.add_zero]
          exact hr5
        · have : (pre ++ [x]).length = ln := by simp; omega
          rw [this]
          exact k55
        · rw [HG.out, if_neg (by simp)]
      · have hge : ((kkL pre : Nat) : Int) < ((kkL pre + tk.length : Nat) : Int) := by omega
        have hge2 : 0 < tk.length := by omega
        have hge3 : (0 : Int) < (tk.length : Int) := by omega
        have hj0 : JE w.heap.size (kkL pre + tk.length) ((ln : Nat) : Int) (((starts x).length + 1 : Nat) : Int) (.slice ad5 (kkL pre + tk.length) cap5) (xxL 0 pre ++ flatT ln tk) W7 (0, undef) false false false W5 := ⟨hb5, k55, hr5, (fun e => by cases e), ht5, by omega⟩
        have hB7 : w.heap.size + 11 ≤ W7.heap.size := by omega
        have hsc : (starts x).length ≤ 1000000 := by omega
        gi_wp2
        refine wpIn_region_any hmx ?_
        refine wpAnyIn_tabG (G := (Nat × Value)) (fun g i__ => ([(.slice ad5 (kkL pre + tk.length) cap5), (.int .i64 (ln : Nat)), (.string x), (.int .i64 ((starts x).length : Nat)), (.int .i64 (((starts x).length + 1 : Nat) : Int)), (.agg #[.int .i64 1, .string ⟨#[10]⟩, .int .i64 (ln : Nat), .int .i64 (((starts x).length + 1 : Nat) : Int)]), (.slice (some ⟨g.1, 0, none⟩) 1 1), g.2, undef] : List Value).getD i__ undef) (fun g d W => JE w.heap.size (kkL pre + tk.length) ((ln : Nat) : Int) (((starts x).length + 1 : Nat) : Int) (.slice ad5 (kkL pre + tk.length) cap5) (xxL 0 pre ++ flatT ln tk) W7 g (d 6) (d 7) (d 8) W) (by kernel_rfl) (0, undef) (hj0.carry hB7 (Below.refl _ _).drew) ?step1 ?fin1
        case step1 =>
          intro i o ho
          have hi : i < 9 := getElem?_lt ho
          match i, hi, ho with
          | 0, _, ho =>
            cases ho
            exact stepGI_ofC (fun g d hun hdep hcl => by exact stepJ_load (wideF_round _) rfl trivial _ _ _ rfl rfl (fun w hw => by have h8 : d 8 = false := (by cases h : d 8 with | false => rfl | true => exact absurd (hcl 7 _ rfl (hcl 8 _ rfl h 7 (by kernel_rfl)) 0 (by kernel_rfl)) (by rw [hun]; simp)); have hb := hw.b4; rw [h8] at hb; exact ld_toks hb))
          | 1, _, ho =>
            cases ho
            refine stepGI_of (fun g d hun hdep => ?_)
            exact stepJ_load (wideF_round _) rfl trivial _ _ _ rfl rfl (fun w hw => ld_int hw.b5)
          | 2, _, ho =>
            cases ho
            refine stepGI_of (fun g d hun hdep => ?_)
            exact stepJ_move (wideF_round _) rfl trivial _ rfl (by kernel_rfl)
          | 3, _, ho =>
            cases ho
            refine stepGI_of (fun g d hun hdep => ?_)
            exact stepJ_call (wideF_round _) rfl trivial 18 _ _ [(.string x)] rfl (by kernel_rfl) (enters_of Tryz.func18 (by kernel_rfl) rfl) (fun w hw => (hct w).mono (by rintro e w' ⟨rfl, hb⟩; exact ⟨rfl, hw.carry hB7 hb⟩))
          | 4, _, ho =>
            cases ho
            refine stepGI_of (fun g d hun hdep => ?_)
            exact stepJ_binOp (wideF_round _) rfl trivial _ _ _ _ _ _ _ rfl rfl rfl (fun w hw => bin_add1 _ hsc)
          | 5, _, ho =>
            cases ho
            exact stepGI_struct4 (wideF_round _) rfl rfl _ _ _ _ _ (.int .i64 1) (.string ⟨#[10]⟩) (.int .i64 (ln : Nat)) (.int .i64 (((starts x).length + 1 : Nat) : Int)) rfl (fun g => ⟨by kernel_rfl, by kernel_rfl, by kernel_rfl, by kernel_rfl⟩) (fun g d W hJ hun => ⟨bd_tok _ _ _ _ _, hJ⟩)
          | 6, _, ho =>
            cases ho
            exact stepGI_build (wideF_round _) rfl rfl _ _ (.agg #[.int .i64 1, .string ⟨#[10]⟩, .int .i64 (ln : Nat), .int .i64 (((starts x).length + 1 : Nat) : Int)]) rfl (fun g => by kernel_rfl) (fun g d W hJ hun hcl => ⟨(W.heap.size, g.2), _, bs_tok _ _ _ _ _, (fun j hj => match j, hj with | 6, hj => (by rw [hj] at hun; cases hun)  | 0, _ => rfl | 1, _ => rfl | 2, _ => rfl | 3, _ => rfl | 4, _ => rfl | 5, _ => rfl | 7, _ => rfl | 8, _ => rfl | _ + 9, _ => rfl), hJ.build hB7⟩)
          | 7, _, ho =>
            cases ho
            exact stepGI_append (wideF_round _) rfl rfl _ _ _ (fun _ => .slice ad5 (kkL pre + tk.length) cap5) (fun g => .slice (some ⟨g.1, 0, none⟩) 1 1) rfl (fun g => by kernel_rfl) (fun g => by kernel_rfl) (fun g d W hJ hun hdep hcl => by have h2 : d 6 = true := hdep 6 (by kernel_rfl); have h8 : d 8 = false := (by cases h : d 8 with | false => rfl | true => exact absurd (hcl 8 _ rfl h 7 (by kernel_rfl)) (by rw [hun]; simp)); have hJ' := hJ; rw [h2, hun, h8] at hJ'; obtain ⟨v', W', hr, hA⟩ := hJ'.app (by omega) _; refine ⟨(g.1, v'), W', hr, (fun j hj => match j, hj with | 7, hj => (by rw [hj] at hun; cases hun)  | 0, _ => rfl | 1, _ => rfl | 2, _ => rfl | 3, _ => rfl | 4, _ => rfl | 5, _ => rfl | 6, _ => rfl | 8, _ => rfl | _ + 9, _ => rfl), ?_⟩; show JE _ _ _ _ _ _ _ _ (d 6) true (d 8) W'; rw [h2, h8]; exact hA)
          | 8, _, ho =>
            cases ho
            exact stepGI_ofC (fun g d hun hdep hcl => by have h7 : d 7 = true := hdep 7 (by kernel_rfl); have h6 : d 6 = true := hcl 7 _ rfl h7 6 (by kernel_rfl); exact stepJ_store (wideF_round _) rfl trivial rfl _ _ _ _ g.2 rfl rfl rfl (fun w' hw => by have hw' := hw; rw [h6, h7, hun] at hw'; obtain ⟨ad6, cap6, e6, _⟩ := ownsRow_form hw'.row; have hs9 := st_any hw'.b4 ad6 (kkL pre + tk.length + 1) cap6; have e7 : g.2 = .slice ad6 (kkL pre + tk.length + 1) cap6 := e6; rw [← e7] at hs9; refine ⟨_, hs9, ?_⟩; show JE _ _ _ _ _ _ _ _ (d 6) (d 7) true _; rw [h6, h7]; exact hw'.store))
        intro g d W hall hW
        first | refine hK _ _ ?_ | refine (‹∀ (a : Act) (w : World), Code.wp Tryz.prog _ _ a w → _›) _ _ ?_ | skip
        simp only [finL, List.getD_cons_zero, List.getD_cons_succ, Nat.zero_add, Nat.reduceAdd, List.setIfInBounds_toArray, List.set_cons_zero, List.set_cons_succ]
        have hWf := hW
        rw [hall 6 (by decide), hall 7 (by decide), hall 8 (by decide)] at hWf
        clear hW
        obtain ⟨HTa, HTb, HTc⟩ := HT.out W hWf.tch
        refine ⟨HTa, ⟨_, hWf.b4, ?_⟩, ?_, (HTc _ (by omega)).trans HH.out.1, (HTc _ (by omega)).trans HH.out.2.1, (HTc _ (by omega)).trans HH.out.2.2.1, (HTc _ (by omega)).trans HH.out.2.2.2, HTb, ?_⟩
        · rw [HKX.out, HXX.out, HLT.out, HLN.out, if_neg ht0, if_neg ht0, ← List.append_assoc, ← Nat.add_assoc]
          exact hWf.row
        · have : (pre ++ [x]).length = ln := by simp; omega
          rw [this]
          exact hWf.b5
        · rw [HG.out, if_neg (by simp)]
    · have hne : ¬ ((er : Nat) : Int) = 0 := by omega
      have hj0 : JF w.heap.size ((ln : Nat) : Int) ((er : Nat) : Int) ((co : Nat) : Int) W5 false false false W5 := ⟨HQ.out.1, HQ.out.2.1, HQ.out.2.2.1, HQ.out.2.2.2, k55, Below.refl _ _, fun _ _ => rfl⟩
      gi_wp2
      refine wpIn_region_any hmx ?_
      refine wpAnyIn_tabG (G := Unit) (fun g i__ => ([(.int .i64 (er : Nat)), (.int .i64 (ln : Nat)), (.int .i64 (co : Nat)), undef, undef, undef, undef] : List Value).getD i__ undef) (fun g d W => JF w.heap.size ((ln : Nat) : Int) ((er : Nat) : Int) ((co : Nat) : Int) W5 (d 4) (d 5) (d 6) W) (by kernel_rfl) () (by exact ⟨hj0.r0, hj0.r1, hj0.r2, hj0.r3, hj0.b5, (Below.refl _ _).drew, fun _ _ => rfl⟩) ?step2 ?fin2
      case step2 =>
        intro i o ho
        have hi : i < 7 := getElem?_lt ho
        match i, hi, ho with
        | 0, _, ho =>
          cases ho
          refine stepGI_of (fun g d hun hdep => ?_)
          exact stepJ_move (wideF_round _) rfl trivial _ rfl (by kernel_rfl)
        | 1, _, ho =>
          cases ho
          refine stepGI_of (fun g d hun hdep => ?_)
          exact stepJ_load (wideF_round _) rfl trivial _ _ _ rfl rfl (fun w hw => ld_int hw.b5)
        | 2, _, ho =>
          cases ho
          refine stepGI_of (fun g d hun hdep => ?_)
          exact stepJ_move (wideF_round _) rfl trivial _ rfl (by kernel_rfl)
        | 3, _, ho =>
          cases ho
          refine stepGI_of (fun g d hun hdep => ?_)
          exact stepJ_store (wideF_round _) rfl trivial rfl _ _ _ _ _ rfl rfl rfl (fun w hw => ⟨_, st_any hw.r0 _ _ _, hw.s0⟩)
        | 4, _, ho =>
          cases ho
          refine stepGI_of (fun g d hun hdep => ?_)
          exact stepJ_store (wideF_round _) rfl trivial rfl _ _ _ _ _ rfl rfl rfl (fun w hw => ⟨_, st_err hw.r1 _, hw.s1⟩)
        | 5, _, ho =>
          cases ho
          refine stepGI_of (fun g d hun hdep => ?_)
          exact stepJ_store (wideF_round _) rfl trivial rfl _ _ _ _ _ rfl rfl rfl (fun w hw => ⟨_, st_int hw.r2 _, hw.s2⟩)
        | 6, _, ho =>
          cases ho
          refine stepGI_of (fun g d hun hdep => ?_)
          exact stepJ_store (wideF_round _) rfl trivial rfl _ _ _ _ _ rfl rfl rfl (fun w hw => ⟨_, st_int hw.r3 _, hw.s3⟩)
      intro g d W hall hW
      first | refine hK _ _ ?_ | refine (‹∀ (a : Act) (w : World), Code.wp Tryz.prog _ _ a w → _›) _ _ ?_ | skip
      simp only [finL, List.getD_cons_zero, List.getD_cons_succ, Nat.zero_add, Nat.reduceAdd, List.setIfInBounds_toArray, List.set_cons_zero, List.set_cons_succ]
      have hWf := hW
      rw [hall 4 (by decide), hall 5 (by decide), hall 6 (by decide)] at hWf
      clear hW
      refine (‹∀ (a : Act) (w : World), Code.wpIn _ _ Tryz.prog Code.ret _ a w → _›) _ _ ?_
      gi_wp2
      refine ⟨HKW.out.trans ⟨hWf.bl.size, fun k a b => hWf.up k (by omega), fun k a b => hWf.up k (by omega)⟩, rfl, pre.length, er, co, ?_, hWf.r0, hWf.r1, ?_, hWf.r3, HB5.out.trans hWf.bl⟩
      · rw [HG.out, if_pos her]
      · rw [hln]
        exact hWf.r2
  case done =>
    rintro W ⟨⟨v, hv, hrow⟩, h5, h0, h1, h2, h3, hb, hgood⟩ hK
    obtain ⟨ad, cap, rfl, _⟩ := ownsRow_form hrow
    have hcv := hv.cell
    have q0 : Boxed W w.heap.size 39 (.slice none 0 0) := h0
    have q1 : Boxed W (w.heap.size + 1) 40 (.int .i64 0) := h1
    have q2 : Boxed W (w.heap.size + 2) 3 (.int .i64 0) := h2
    have q3 : Boxed W (w.heap.size + 3) 3 (.int .i64 0) := h3
    have c0 := q0.cell
    have f0 := q0.frozen
    obtain ⟨A1, hA1⟩ : ∃ A1, A1 = W.setCell ⟨w.heap.size, 0, none⟩ (.slice ad (kkL (linesOf s)) cap) := ⟨_, rfl⟩
    have r0 : Boxed A1 w.heap.size 39 (.slice ad (kkL (linesOf s)) cap) := by rw [hA1]; exact q0.set _
    have r1 : Boxed A1 (w.heap.size + 1) 40 (.int .i64 0) := by rw [hA1]; exact q1.other (by omega) _
    have r2 : Boxed A1 (w.heap.size + 2) 3 (.int .i64 0) := by rw [hA1]; exact q2.other (by omega) _
    have r3 : Boxed A1 (w.heap.size + 3) 3 (.int .i64 0) := by rw [hA1]; exact q3.other (by omega) _
    have c1 := r1.cell
    have f1 := r1.frozen
    obtain ⟨A2, hA2⟩ : ∃ A2, A2 = A1.setCell ⟨w.heap.size + 1, 0, none⟩ (.int .i64 0) := ⟨_, rfl⟩
    have s0 : Boxed A2 w.heap.size 39 (.slice ad (kkL (linesOf s)) cap) := by rw [hA2]; exact r0.other (by omega) _
    have s1 : Boxed A2 (w.heap.size + 1) 40 (.int .i64 0) := by rw [hA2]; exact r1.set _
    have s2 : Boxed A2 (w.heap.size + 2) 3 (.int .i64 0) := by rw [hA2]; exact r2.other (by omega) _
    have s3 : Boxed A2 (w.heap.size + 3) 3 (.int .i64 0) := by rw [hA2]; exact r3.other (by omega) _
    have c2 := s2.cell
    have f2 := s2.frozen
    obtain ⟨A3, hA3⟩ : ∃ A3, A3 = A2.setCell ⟨w.heap.size + 2, 0, none⟩ (.int .i64 0) := ⟨_, rfl⟩
    have t0 : Boxed A3 w.heap.size 39 (.slice ad (kkL (linesOf s)) cap) := by rw [hA3]; exact s0.other (by omega) _
    have t1 : Boxed A3 (w.heap.size + 1) 40 (.int .i64 0) := by rw [hA3]; exact s1.other (by omega) _
    have t2 : Boxed A3 (w.heap.size + 2) 3 (.int .i64 0) := by rw [hA3]; exact s2.set _
    have t3 : Boxed A3 (w.heap.size + 3) 3 (.int .i64 0) := by rw [hA3]; exact s3.other (by omega) _
    have c3 := t3.cell
    have f3 := t3.frozen
    rw [hA3, hA2, hA1] at c3 f3
    rw [hA2, hA1] at c2 f2
    rw [hA1] at c1 f1
    gi_wp2
    rw [← hA1, ← hA2, ← hA3]
    clear c0 f0 c1 f1 c2 f2 c3 f3
    obtain ⟨A4, hA4⟩ : ∃ A4, A4 = A3.setCell ⟨w.heap.size + 3, 0, none⟩ (.int .i64 0) := ⟨_, rfl⟩
    rw [← hA4]
    have u0 : Boxed A4 w.heap.size 39 (.slice ad (kkL (linesOf s)) cap) := by rw [hA4]; exact t0.other (by omega) _
    have u1 : Boxed A4 (w.heap.size + 1) 40 (.int .i64 0) := by rw [hA4]; exact t1.other (by omega) _
    have u2 : Boxed A4 (w.heap.size + 2) 3 (.int .i64 0) := by rw [hA4]; exact t2.other (by omega) _
    have u3 : Boxed A4 (w.heap.size + 3) 3 (.int .i64 0) := by rw [hA4]; exact t3.set _
    have hK4 : A4.heap[W0.heap.size]? = some (.deferred (some [])) := by
      rw [hA4, hA3, hA2, hA1, set_other (by omega), set_other (by omega), set_other (by omega), set_other (by omega)]
      exact hK
    have hr4 : A4.ownsRow (w.heap.size + 11) 50 4 (.slice ad (kkL (linesOf s)) cap) (kkL (linesOf s)) (xxL 0 (linesOf s)) := by
      rw [hA4, hA3, hA2, hA1]
      exact ownsRow_setCell_below (ownsRow_setCell_below (ownsRow_setCell_below (ownsRow_setCell_below hrow (by show w.heap.size < _; omega) _) (by show w.heap.size + 1 < _; omega) _) (by show w.heap.size + 2 < _; omega) _) (by show w.heap.size + 3 < _; omega) _
    have hb4 : Below w.heap.size w A4 := by
      rw [hA4, hA3, hA2, hA1]
      exact (((hb.setCell (by simp) _).setCell (by simp) _).setCell (by simp) _).setCell (by simp) _
    clear hA1 hA2 hA3 hA4
    have p0 : ∀ o, (A4.putObj W0.heap.size o).cell? ⟨w.heap.size, 0, none⟩ = some (.slice ad (kkL (linesOf s)) cap) := fun o => Boxed.cell (t := 39) ((World.putObj_heap_other (by omega)).trans u0)
    have p1 : ∀ o, (A4.putObj W0.heap.size o).cell? ⟨w.heap.size + 1, 0, none⟩ = some (.int .i64 0) := fun o => Boxed.cell (t := 40) ((World.putObj_heap_other (by omega)).trans u1)
    have p2 : ∀ o, (A4.putObj W0.heap.size o).cell? ⟨w.heap.size + 2, 0, none⟩ = some (.int .i64 0) := fun o => Boxed.cell (t := 3) ((World.putObj_heap_other (by omega)).trans u2)
    have p3 : ∀ o, (A4.putObj W0.heap.size o).cell? ⟨w.heap.size + 3, 0, none⟩ = some (.int .i64 0) := fun o => Boxed.cell (t := 3) ((World.putObj_heap_other (by omega)).trans u3)
    refine ⟨by simp, .inl ⟨_, _, rfl, run_takeDeferred hK4, ?_⟩⟩
    refine ⟨.tuple #[.slice ad (kkL (linesOf s)) cap, .int .i64 0, .int .i64 0, .int .i64 0], by simp [results, Tryz.results5, go_sem, p0, p1, p2, p3], ?_, ?_⟩
    · unfold ScV
      rw [hgood]
      exact ⟨_, rfl, ownsRow_base (ownsRow_putObj hr4 _ hK4 rfl) (by omega)⟩
    · exact hb4.trans (belowK_b (w := w) (Nat.le_refl _) _ W0.heap.size _ _ (by omega) hK4 rfl rfl)
  case stop =>
    rintro c pre W hpre ⟨rfl, i, er, co, hbad, h0, h1, h2, h3, hb⟩ hK
    gi_wp2
    have p0 : ∀ o, (W.putObj W0.heap.size o).cell? ⟨w.heap.size, 0, none⟩ = some (.slice none 0 0) := fun o => Boxed.cell (t := 39) ((World.putObj_heap_other (by omega)).trans h0)
    have p1 : ∀ o, (W.putObj W0.heap.size o).cell? ⟨w.heap.size + 1, 0, none⟩ = some (.int .i64 (er : Nat)) := fun o => Boxed.cell (t := 40) ((World.putObj_heap_other (by omega)).trans h1)
    have p2 : ∀ o, (W.putObj W0.heap.size o).cell? ⟨w.heap.size + 2, 0, none⟩ = some (.int .i64 ((i + 1 : Nat) : Int)) := fun o => Boxed.cell (t := 3) ((World.putObj_heap_other (by omega)).trans h2)
    have p3 : ∀ o, (W.putObj W0.heap.size o).cell? ⟨w.heap.size + 3, 0, none⟩ = some (.int .i64 (co : Nat)) := fun o => Boxed.cell (t := 3) ((World.putObj_heap_other (by omega)).trans h3)
    refine ⟨by simp, .inl ⟨_, _, rfl, run_takeDeferred hK, ?_⟩⟩
    refine ⟨.tuple #[.slice none 0 0, .int .i64 (er : Nat), .int .i64 ((i + 1 : Nat) : Int), .int .i64 (co : Nat)], by simp [results, Tryz.results5, go_sem, p0, p1, p2, p3], ?_, ?_⟩
    · unfold ScV
      rw [badL_prefix hpre hbad]
    · exact hb.trans (belowK_b (w := w) (Nat.le_refl _) _ W0.heap.size _ _ (by omega) hK rfl rfl)
end Go.Proofs.YtngjjcmoekeciaaGreatDoor
