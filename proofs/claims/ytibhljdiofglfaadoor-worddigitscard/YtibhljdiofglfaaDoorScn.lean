/- What word.Scan answers of a text of one line. -/
import Derived.Test.YtibhljdiofglfaaDoorSpl
import Derived.Test.YtibhljdiofglfaaDoorCutS
import Derived.Test.YtibhljdiofglfaaDoorAny
import Derived.RangeFuncLeaves
import Derived.RangeFuncBox
import Derived.RangeFuncFrom
namespace Go.Proofs.YtibhljdiofglfaaDoor
open Go.RowKit Go.Shelf
attribute [local go_sem] Oper.semAt_some

theorem get_old {w : World} {o o' : Obj} {k : Nat} (h : w.heap[k]? = some o') : (w.alloc o).heap[k]? = some o' := (Below.heap_alloc w o k (Array.getElem?_eq_some_iff.1 h).1).trans h
theorem blk_own {β : Type} (B : Nat) (f : β → Obj) (hc : ∀ s, (f s).isCells = true) : Own (fun s W => W.heap[B]? = some (f s)) := fun s X Y row hs hg hrow => by
  refine (hg.block B (Array.getElem?_eq_some_iff.1 hs).1 (fun e' => ?_)).trans hs
  obtain ⟨o, ho, hcf⟩ := hrow B e'.symm
  rw [hs] at ho
  cases ho
  rw [hc] at hcf
  cases hcf
theorem rowBox_own {β : Type} (n0 B : Nat) (t e : TypeId) (size : Nat) (k : β → Nat) (xs : β → List Value) : Own (fun s W => ∃ v, Boxed W B t v ∧ W.ownsRow n0 e size v (k s) (xs s)) := by
  rintro s X Y row ⟨v, hb, ho⟩ hg hr
  refine ⟨v, boxed_own B t (fun _ : Unit => v) () X Y row hb hg hr, ho.kept hg ?_⟩
  cases hv : v.ownBlock with
  | none => exact .inl rfl
  | some g =>
    refine .inr (fun e' => ?_)
    obtain ⟨o, h1, h2⟩ := hr g e'.symm
    obtain ⟨_, cur, h3⟩ := ownsRow_block ho g hv
    rw [h1] at h3
    cases h3
    cases h2

theorem set_other {W : World} {B B' j : Nat} {v : Value} (h : B ≠ B') : (W.setCell ⟨B', j, none⟩ v).heap[B]? = W.heap[B]? := Below.heap_setCell _ _ _ _ h
theorem Kept.setCell {bx B m : Nat} {W : World} {B' j : Nat} {v : Value} (h1 : B' ≠ bx) (h2 : B' < B ∨ B + m ≤ B') : Kept bx B m W (W.setCell ⟨B', j, none⟩ v) :=
  ⟨by simp [World.setCell], set_other (Ne.symm h1), fun k h3 h4 => set_other (by omega)⟩
/-- The frame at the end of a line. -/
def FR (N : Nat) (x : ByteArray) (u : Nat → Value) (x37 x38 x39 x40 x41 x42 x43 x44 : Value) : Array Value := #[u 0, u 1, u 2, u 3, u 4, u 5, .pointer (some ⟨N + 4, 0, none⟩), .pointer (some ⟨N + 5, 0, none⟩), .string x, u 9, u 10, u 11, u 12, u 13, u 14, u 15, u 16, u 17, u 18, u 19, u 20, u 21, u 22, u 23, u 24, u 25, u 26, u 27, u 28, u 29, u 30, u 31, u 32, u 33, u 34, u 35, u 36, x37, x38, x39, x40, x41, x42, x43, x44, u 45]
theorem fr_start {M : Act → Prop} {N : Nat} {x : ByteArray} (X0 : Array Value) (hX : X0 = FR N x (fun i => X0.getD i undef) undef undef undef undef undef undef undef undef) (h : ∀ u, M { tmps := FR N x u undef undef undef undef undef undef undef undef, defers := [] }) : M { tmps := X0, defers := [] } := by
  rw [hX]
  exact h _
theorem step_append_in {F : Fence} {n : Nat} {P : Program} {ops : Array Oper} {o : Oper} {a : Act} {w : World} {K : Act → World → Prop} {Q : Exit → Act → World → Prop} {E : Prop} (hg : o.guard = none)
    (sl x : Operand) (t u : TypeId) (ho : o.op = .call { callee := .builtin .append, args := #[sl, x], argTypes := #[t, u] }) (v v2 : Value) (hs : a.eval sl = v) (hx : a.eval x = v2)
    (v' : Value) (w' : World) (hr : (Builtin.append_ #[t, u] o.type #[v, v2]).run P w = .ok v' w') (hK : K (a.put o.dst v') w') : if Region.wanted o (yielded ops a.tmps) = true then Oper.wpIn F n P o a w K Q else E := by
  rw [if_pos (by simp [Region.wanted, hg])]
  unfold Oper.wpIn
  rw [Oper.semAt_eq _ _ _ (fun c e => by rw [ho] at e; cases e)]
  refine ⟨fun f hf => ?_, ?_⟩
  · simp [Oper.about, ho, resolve, Target.leads] at hf
  · unfold execOp
    simp only [ho, resolve, invoke, builtin, Sem.run_bind, Sem.run_pure, Result.andThen_ok, List.map_toArray, List.map_cons, List.map_nil, hs, hx, hr]
    exact hK
/-- What the world is at the end of a line, ahead of the append. -/
structure GG (N B L : Nat) (v : Value) (fl : List Value) (W7 X : World) : Prop where
  b4 : Boxed X (N + 4) 22 v
  b5 : Boxed X (N + 5) 3 (.int .i64 1)
  row : X.ownsRow B 32 4 v L fl
  tch : TchB B (N + 4) W7 X
theorem GG.below {N B L : Nat} {v : Value} {fl : List Value} {W7 X X' : World} (h : GG N B L v fl W7 X) (hB : B ≤ W7.heap.size) (hb : Below X.heap.size X X') : GG N B L v fl W7 X' :=
  ⟨(hb.block _ h.b4.lt).trans h.b4, (hb.block _ h.b5.lt).trans h.b5, row_below h.row hb, h.tch.below hb hB⟩

def kkS (s : ByteArray) (pre : List ByteArray) : Nat := match pre with | [] => 0 | _ :: _ => (cutR s).1.length + 1
def xxS (s : ByteArray) (pre : List ByteArray) : List Value := match pre with | [] => [] | _ :: _ => flatT 1 (cutR s).1 ++ tokC 1 ⟨#[10]⟩ 1 (((starts s).length + 1 : Nat) : Int)

set_option maxHeartbeats 4000000 in
set_option maxRecDepth 100000 in
theorem scan_one (s : ByteArray) (hs : s.size ≤ 65536) (hn : nlAt s = -1) (hok : (cutR s).2.1 = 0) (hne : 0 < (cutR s).1.length) (hle : (cutR s).1.length ≤ 65536) (w : World) :
    CallsIn Fence.wide 0 Tryd.prog 9 #[.string s] w fun e w' => ∃ v, e = .returned (.tuple #[v, .int .i64 0, .int .i64 0, .int .i64 0]) ∧ w'.ownsRow w.heap.size 32 4 v (kkS s [s]) (xxS s [s]) ∧ Below w.heap.size w w' := by
  have hgt : decide (65536 < (s.size : Int)) = false := by simp; omega
  obtain ⟨ic, hic, hz0, hz1, hz2⟩ := info_parts infoTok
  refine callsIn_of_wp_marks Tryd.func9 rfl trivial ?_ rfl
  simp only [Tryd.ntmps9, List.size_toArray, List.length_cons, List.length_nil, Nat.reduceAdd, Nat.reduceSub, Array.replicate_succ, Array.replicate_zero, List.push_toArray, List.append_toArray, List.nil_append, List.cons_append]
  gi_wp2_with (with_reducible (refine And.intro (wfn _) (And.intro wdep ?_)); gi_at_call 16; refine (callsIn_wide.2 (split_any s _)).mono ?_; rintro e w' ⟨rfl, hw9⟩; rw [hw9]; clear hw9)
  generalize hW0 : (World.alloc (World.alloc (World.alloc _ _) _) (.cells #[.int .i64 0] 3)) = W0
  simp only [Nat.add_assoc, Nat.reduceAdd]
  have z0 : W0.heap.size = w.heap.size + 9 := by rw [← hW0]; simp
  have b0 : Below w.heap.size w W0 := by
    rw [← hW0]
    exact (((((((((Below.refl _ w).alloc (by simp) _).alloc (by simp) _).alloc (by simp; omega) _).alloc (by simp; omega) _).alloc (by simp; omega) _).alloc (by simp; omega) _).alloc (by simp; omega) _).alloc (by simp; omega) _).alloc (by simp; omega) _
  have x0 : W0.heap[w.heap.size]? = some (.cells #[.slice none 0 0] 22) := by rw [← hW0]; exact get_old (get_old (get_old (get_old (get_old (get_old (get_old (get_old (get_new (by simp)))))))))
  have x1 : W0.heap[w.heap.size + 1]? = some (.cells #[.int .i64 0] 23) := by rw [← hW0]; exact get_old (get_old (get_old (get_old (get_old (get_old (get_old (get_new (by simp))))))))
  have x2 : W0.heap[w.heap.size + 2]? = some (.cells #[.int .i64 0] 3) := by rw [← hW0]; exact get_old (get_old (get_old (get_old (get_old (get_old (get_new (by simp)))))))
  have x3 : W0.heap[w.heap.size + 3]? = some (.cells #[.int .i64 0] 3) := by rw [← hW0]; exact get_old (get_old (get_old (get_old (get_old (get_new (by simp))))))
  have x4 : W0.heap[w.heap.size + 4]? = some (.cells #[.slice none 0 0] 22) := by rw [← hW0]; exact get_old (get_old (get_old (get_old (get_new (by simp)))))
  have x5 : W0.heap[w.heap.size + 5]? = some (.cells #[.int .i64 0] 3) := by rw [← hW0]; exact get_old (get_old (get_old (get_new (by simp))))
  have x6 : W0.heap[w.heap.size + 6]? = some (.cells #[.string s] 9) := by rw [← hW0]; exact get_old (get_old (get_new (by simp)))
  have x7 : W0.heap[w.heap.size + 7]? = some (.cells #[.string ⟨#[10]⟩] 9) := by rw [← hW0]; exact get_old (get_new (by simp))
  have x8 : W0.heap[w.heap.size + 8]? = some (.cells #[.int .i64 0] 3) := by rw [← hW0]; exact get_new (by simp)
  clear hW0
  refine wp_range (kb := 0) (gf := 43) (lb := #[.pointer (some ⟨w.heap.size + 7, 0, none⟩), .pointer (some ⟨w.heap.size + 6, 0, none⟩), .pointer (some ⟨w.heap.size + 8, 0, none⟩)]) rfl (enters_of Tryd.func43 (by kernel_rfl) rfl)
    (split1_seq s hn (w.heap.size + 6) _ x6 x7) (by omega) (fun _ => rfl)
    (fun pre W => (∃ v, Boxed W (w.heap.size + 4) 22 v ∧ W.ownsRow (w.heap.size + 11) 32 4 v (kkS s pre) (xxS s pre)) ∧ W.heap[w.heap.size + 5]? = some (.cells #[.int .i64 (pre.length : Nat)] 3) ∧ W.heap[w.heap.size]? = some (.cells #[.slice none 0 0] 22) ∧ W.heap[w.heap.size + 1]? = some (.cells #[.int .i64 0] 23) ∧ W.heap[w.heap.size + 2]? = some (.cells #[.int .i64 0] 3) ∧ W.heap[w.heap.size + 3]? = some (.cells #[.int .i64 0] 3) ∧ Below w.heap.size w W)
    (fun _ _ _ => False)
    (OwnFrom.and ((rowBox_own _ _ _ _ _ (kkS s) (xxS s)).from _) (OwnFrom.and ((blk_own (w.heap.size + 5) (fun pre : List ByteArray => .cells #[.int .i64 (pre.length : Nat)] 3) (fun _ => rfl)).from _) (OwnFrom.and ((blk_own (w.heap.size) (fun _ : List ByteArray => .cells #[.slice none 0 0] 22) (fun _ => rfl)).from _) (OwnFrom.and ((blk_own (w.heap.size + 1) (fun _ : List ByteArray => .cells #[.int .i64 0] 23) (fun _ => rfl)).from _) (OwnFrom.and ((blk_own (w.heap.size + 2) (fun _ : List ByteArray => .cells #[.int .i64 0] 3) (fun _ => rfl)).from _) (OwnFrom.and ((blk_own (w.heap.size + 3) (fun _ : List ByteArray => .cells #[.int .i64 0] 3) (fun _ => rfl)).from _) (ownFrom_below (Nat.le_refl _) (by omega))))))))
    (fun _ _ _ _ _ hs _ _ => hs)
    ⟨⟨_, x4, World.ownsRow_nil _ _ _ _⟩, x5, x0, x1, x2, x3, b0⟩
    (fun x a' _ => a' = { tmps := #[.string s, undef, .pointer (some ⟨w.heap.size, 0, none⟩), .pointer (some ⟨w.heap.size + 1, 0, none⟩), .pointer (some ⟨w.heap.size + 2, 0, none⟩), .pointer (some ⟨w.heap.size + 3, 0, none⟩), .pointer (some ⟨w.heap.size + 4, 0, none⟩), .pointer (some ⟨w.heap.size + 5, 0, none⟩), .string x, undef, undef, undef, .string s, .int .i64 s.size, .bool false, .string s, .func (.func 43) #[] #[.pointer (some ⟨w.heap.size + 7, 0, none⟩), .pointer (some ⟨w.heap.size + 6, 0, none⟩), .pointer (some ⟨w.heap.size + 8, 0, none⟩)], .string x, undef, undef, undef, undef, undef, undef, undef, undef, undef, undef, undef, undef, undef, undef, undef, undef, undef, undef, undef, undef, undef, undef, undef, undef, undef, undef, undef, undef], defers := [] })
    ?ax ?assign ?body ?done ?stop
  case ax =>
    intro x a' _ X Y row h hg hr
    exact h
  case assign =>
    rintro l pre x W K hI hsz hK
    gi_wp2
    exact hK _ _ (Kept.refl _ _ _ _) hI rfl
  case body =>
    rintro l pre x a' W ⟨⟨v, hv, hrow⟩, h5, h0, h1, h2, h3, hb⟩ rfl hsz hpr
    obtain ⟨rfl, rfl⟩ : pre = [] ∧ x = s := by
      obtain ⟨q, hq⟩ := hpr
      cases pre with
      | nil => simp at hq; exact ⟨rfl, hq.1⟩
      | cons a r => have := congrArg List.length hq; simp at this
    have hrow0 : W.ownsRow (w.heap.size + 11) 32 4 v 0 [] := hrow
    obtain ⟨ad0, cap0, rfl, _⟩ := ownsRow_form hrow0
    have h5b : Boxed W (w.heap.size + 5) 3 (.int .i64 0) := h5
    have c4 := hv.cell
    have c5 := h5b.cell
    have f5 := h5b.frozen
    have k5 : Boxed (W.setCell ⟨w.heap.size + 5, 0, none⟩ (.int .i64 1)) (w.heap.size + 5) 3 (.int .i64 1) := h5b.set _
    have k4 : Boxed (W.setCell ⟨w.heap.size + 5, 0, none⟩ (.int .i64 1)) (w.heap.size + 4) 22 _ := hv.other (by omega) (.int .i64 1)
    have c4b := k4.cell
    have hrow7 := ownsRow_setCell_below (a := ⟨w.heap.size + 5, 0, none⟩) hrow0 (by show w.heap.size + 5 < w.heap.size + 11; omega) (.int .i64 1)
    have hcut := cutS_any x hs (w.heap.size + 11) (w.heap.size + 5) (w.heap.size + 4) 1 _ 0 [] _ k5 k4 hrow7 (by omega) (by simp [World.setCell]; omega) (by omega) (by omega) (by omega)
    rw [hok] at hcut
    have HW : Hid (Kept (w.heap.size + 6) W0.heap.size (0 + 2) W (W.setCell ⟨w.heap.size + 5, 0, none⟩ (.int .i64 1))) := Kept.setCell (by omega) (by omega)
    have HB7 : Hid (Below w.heap.size w (W.setCell ⟨w.heap.size + 5, 0, none⟩ (.int .i64 1))) := hb.setCell (by simp) _
    have HZ : Hid (∀ q, q ≠ w.heap.size + 5 → (W.setCell ⟨w.heap.size + 5, 0, none⟩ (.int .i64 1)).heap[q]? = W.heap[q]?) := fun q hq => set_other hq
    generalize hW7 : W.setCell ⟨w.heap.size + 5, 0, none⟩ (.int .i64 1) = W7 at *
    have hne2 : 0 < ((cutR x).1.length : Int) := by omega
    gi_wp2
    refine And.intro (wfn _) (And.intro wdep ?_)
    refine (CallsIn.inRound l (callsIn_wide.2 hcut)).mono ?_
    rintro e W5 ⟨rfl, v5, hb5, hr5, ht5⟩
    simp only [Nat.zero_add, List.nil_append] at hr5
    obtain ⟨ad5, cap5, rfl, _⟩ := ownsRow_form hr5
    have c45 := hb5.cell
    have k55 : Boxed W5 (w.heap.size + 5) 3 (.int .i64 1) := (ht5.block (w.heap.size + 5) (by omega) (by omega)).trans k5
    have c55 := k55.cell
    have hxm : x.size ≤ maxLen := by unfold maxLen; omega
    have hcl := starts_length x
    have hwr : IntKind.i64.wrap (((starts x).length : Int) + 1) = (((starts x).length + 1 : Nat) : Int) := by rw [IntKind.wrap_i64]; omega
    have hBz : w.heap.size + 11 ≤ W7.heap.size := by rw [← hW7]; simp [World.setCell]; omega
    gi_wp2
    have hmx : Tryd.prog.follows .mixedOrders = true := by kernel_rfl
    refine wpIn_region_any hmx ?_
    have hG0 : GG w.heap.size (w.heap.size + 11) (cutR x).1.length (.slice ad5 (cutR x).1.length cap5) (flatT 1 (cutR x).1) W7 W5.drew := ⟨hb5, k55, hr5, ht5.os, ht5.tape, ht5.output, ht5.size, ht5.block⟩
    show wpAnyIn _ _ _ _ _ _ 9 _ _ W5.drew
    generalize W5.drew = V5 at hG0 ⊢
    refine fr_start (M := fun a => wpAnyIn (Fence.wide.inRound l) 0 Tryd.prog Region.Mode.any _ _ 9 _ a V5) (N := w.heap.size) (x := x) _ rfl (fun u0 => ?_)
    show wpAnyIn _ _ _ _ _ _ 9 _ _ V5
    refine wpAnyIn_inv (fun k listed a1 w1 => ∃ u : Nat → Value, (∃ b0 b1 b2 b3 b4 b5 : Bool, (b3 = true → b2 = true) ∧ (b4 = true → b3 = true) ∧ (b5 = true → b1 = true ∧ b4 = true) ∧ fls b0 + fls b1 + fls b2 + fls b3 + fls b4 + fls b5 + 3 = k ∧ listed = #[b0, b1, b2, b3, b4, b5, false, false, false] ∧ a1 = { tmps := FR w.heap.size x u (if b0 = true then (.slice ad5 (cutR x).1.length cap5) else undef) (if b1 = true then (.int .i64 1) else undef) (if b2 = true then (.string x) else undef) (if b3 = true then (.int .i64 ((starts x).length : Int)) else undef) (if b4 = true then (.int .i64 (((starts x).length + 1 : Nat) : Int)) else undef) (if b5 = true then (.agg #[.int .i64 1, .string ⟨#[10]⟩, .int .i64 1, .int .i64 (((starts x).length + 1 : Nat) : Int)]) else undef) undef undef, defers := [] } ∧ GG w.heap.size (w.heap.size + 11) (cutR x).1.length (.slice ad5 (cutR x).1.length cap5) (flatT 1 (cutR x).1) W7 w1) ∨ (∃ (b0 : Bool) (X : World), fls b0 + 2 = k ∧ listed = #[b0, true, true, true, true, true, true, false, false] ∧ a1 = { tmps := FR w.heap.size x u (if b0 = true then (.slice ad5 (cutR x).1.length cap5) else undef) (if true = true then (.int .i64 1) else undef) (if true = true then (.string x) else undef) (if true = true then (.int .i64 ((starts x).length : Int)) else undef) (if true = true then (.int .i64 (((starts x).length + 1 : Nat) : Int)) else undef) (if true = true then (.agg #[.int .i64 1, .string ⟨#[10]⟩, .int .i64 1, .int .i64 (((starts x).length + 1 : Nat) : Int)]) else undef) (.slice (some ⟨X.heap.size, 0, none⟩) 1 1) undef, defers := [] } ∧ GG w.heap.size (w.heap.size + 11) (cutR x).1.length (.slice ad5 (cutR x).1.length cap5) (flatT 1 (cutR x).1) W7 X ∧ w1 = X.alloc (.cells #[.int .i64 1, .string ⟨#[10]⟩, .int .i64 1, .int .i64 (((starts x).length + 1 : Nat) : Int)] 32)) ∨ (∃ (y43 : Value) (g6 c6 : Nat), 1 = k ∧ listed = #[true, true, true, true, true, true, true, true, false] ∧ a1 = { tmps := FR w.heap.size x u (if true = true then (.slice ad5 (cutR x).1.length cap5) else undef) (if true = true then (.int .i64 1) else undef) (if true = true then (.string x) else undef) (if true = true then (.int .i64 ((starts x).length : Int)) else undef) (if true = true then (.int .i64 (((starts x).length + 1 : Nat) : Int)) else undef) (if true = true then (.agg #[.int .i64 1, .string ⟨#[10]⟩, .int .i64 1, .int .i64 (((starts x).length + 1 : Nat) : Int)]) else undef) y43 (.slice (some ⟨g6, 0, none⟩) ((cutR x).1.length + 1) c6), defers := [] } ∧ Boxed w1 (w.heap.size + 4) 22 (.slice ad5 (cutR x).1.length cap5) ∧ Boxed w1 (w.heap.size + 5) 3 (.int .i64 1) ∧ w1.ownsRow (w.heap.size + 11) 32 4 (.slice (some ⟨g6, 0, none⟩) ((cutR x).1.length + 1) c6) ((cutR x).1.length + 1) (xxS x [x]) ∧ TchB (w.heap.size + 11) (w.heap.size + 4) W7 w1) ∨ (∃ (v6 : Value) (X : World), 0 = k ∧ listed = #[true, true, true, true, true, true, true, true, true] ∧ w1 = X.setCell ⟨w.heap.size + 4, 0, none⟩ v6 ∧ Boxed X (w.heap.size + 4) 22 (.slice ad5 (cutR x).1.length cap5) ∧ Boxed X (w.heap.size + 5) 3 (.int .i64 1) ∧ X.ownsRow (w.heap.size + 11) 32 4 v6 ((cutR x).1.length + 1) (xxS x [x]) ∧ TchB (w.heap.size + 11) (w.heap.size + 4) W7 X)) ?h0 ?hs 9 _ _ _ ?start
    case start =>
      exact ⟨u0, Or.inl ⟨false, false, false, false, false, false, (fun h => by cases h), (fun h => by cases h), (fun h => by cases h), rfl, rfl, rfl, hG0⟩⟩
    case h0 =>
      rintro listed a1 w1 ⟨u, (⟨b0, b1, b2, b3, b4, b5, q3, q4, q5, hk, rfl, rfl, hG⟩ | ⟨b0, X, hk, rfl, rfl, hG, rfl⟩ | ⟨y43, g6, c6, hk, rfl, rfl, g4, g5, gr, gt⟩ | ⟨v6, X, _, rfl, rfl, g4, g5, gr, gt⟩)⟩
      · omega
      · omega
      · omega
      · refine ⟨by kernel_rfl, ?_⟩
        have hXk : ∀ q, q < w.heap.size + 11 → q ≠ w.heap.size + 4 → q ≠ w.heap.size + 5 → (X.setCell ⟨w.heap.size + 4, 0, none⟩ v6).heap[q]? = W.heap[q]? := fun q h1 h2 h3 => ((set_other h2).trans (gt.block q h1 h2)).trans (HZ.out q h3)
        have hBX : Below w.heap.size w X := ⟨gt.os.trans HB7.out.os, gt.tape.trans HB7.out.tape, gt.output.trans HB7.out.output, Nat.le_trans HB7.out.size gt.size, fun k hk => (gt.block k (by omega) (by omega)).trans (HB7.out.block k hk)⟩
        show Kept (w.heap.size + 6) W0.heap.size (0 + 2) W (X.setCell _ _) ∧ _
        refine ⟨⟨?_, hXk _ (by omega) (by omega) (by omega), fun k h1 h2 => hXk k (by omega) (by omega) (by omega)⟩, ⟨v6, g4.set v6, ownsRow_setCell_below gr (by show w.heap.size + 4 < _; omega) _⟩, (set_other (by omega)).trans g5, (hXk _ (by omega) (by omega) (by omega)).trans h0, (hXk _ (by omega) (by omega) (by omega)).trans h1, (hXk _ (by omega) (by omega) (by omega)).trans h2, (hXk _ (by omega) (by omega) (by omega)).trans h3, hBX.setCell (by simp) _⟩
        have z1 := HW.out.size
        have z2 := gt.size
        have z3 : ∀ y, (X.setCell ⟨w.heap.size + 4, 0, none⟩ y).heap.size = X.heap.size := fun y => by simp [World.setCell]
        rw [z3]
        omega
    case hs =>
      rintro k listed a1 w1 ⟨u, (⟨b0, b1, b2, b3, b4, b5, q3, q4, q5, hk, rfl, rfl, hG⟩ | ⟨b0, X, hk, rfl, rfl, hG, rfl⟩ | ⟨y43, g6, c6, hk, rfl, rfl, g4, g5, gr, gt⟩ | ⟨_, _, h, _⟩)⟩
      · refine ⟨fun h => ?_, fun i hi => ?_⟩
        · have nr := List.eq_nil_iff_forall_not_mem.1 h
          cases b0 with
          | false => exact absurd (mem_ready.2 ⟨rfl, _, rfl, by simp [Region.binds]⟩) (nr 0)
          | true =>
          cases b1 with
          | false => exact absurd (mem_ready.2 ⟨rfl, _, rfl, by simp [Region.binds]⟩) (nr 1)
          | true =>
          cases b2 with
          | false => exact absurd (mem_ready.2 ⟨rfl, _, rfl, by simp [Region.binds]⟩) (nr 2)
          | true =>
          cases b3 with
          | false => exact absurd (mem_ready.2 ⟨rfl, _, rfl, by simp [Region.binds]⟩) (nr 3)
          | true =>
          cases b4 with
          | false => exact absurd (mem_ready.2 ⟨rfl, _, rfl, by simp [Region.binds]⟩) (nr 4)
          | true =>
          cases b5 with
          | false => exact absurd (mem_ready.2 ⟨rfl, _, rfl, by simp [Region.binds]⟩) (nr 5)
          | true =>
          exact absurd (mem_ready.2 ⟨rfl, _, rfl, by simp [Region.binds]⟩) (nr 6)
        · obtain ⟨hun, o, ho, haf⟩ := mem_ready.1 hi
          have ef : fls false = 1 := rfl
          have et : fls true = 0 := rfl
          have hi9 : i < 9 := by
            have := (Array.getElem?_eq_some_iff.1 ho).1
            simpa using this
          match i, hi9 with
          | 0, _ =>
            simp at hun; subst hun
            clear hi
            refine wpOpIn_step rfl (fun K hK => ?_)
            have e4 := hG.b4.cell
            have e5 := hG.b5.cell
            simp only [FR]
            go_simp
            exact hK _ _ ⟨u, Or.inl ⟨true, b1, b2, b3, b4, b5, q3, q4, q5, by omega, rfl, rfl, hG⟩⟩
          | 1, _ =>
            simp at hun; subst hun
            clear hi
            refine wpOpIn_step rfl (fun K hK => ?_)
            have e4 := hG.b4.cell
            have e5 := hG.b5.cell
            simp only [FR]
            go_simp
            exact hK _ _ ⟨u, Or.inl ⟨b0, true, b2, b3, b4, b5, q3, q4, fun h => ⟨rfl, (q5 h).2⟩, by omega, rfl, rfl, hG⟩⟩
          | 2, _ =>
            simp at hun; subst hun
            clear hi
            refine wpOpIn_step rfl (fun K hK => ?_)
            have e4 := hG.b4.cell
            have e5 := hG.b5.cell
            simp only [FR]
            go_simp
            exact hK _ _ ⟨u, Or.inl ⟨b0, b1, true, b3, b4, b5, fun h => rfl, q4, q5, by omega, rfl, rfl, hG⟩⟩
          | 3, _ =>
            simp at hun; subst hun
            simp at ho; subst ho
            simp [Region.binds] at haf
            obtain rfl := haf
            clear hi
            refine wpOpIn_step rfl (fun K hK => ?_)
            have e4 := hG.b4.cell
            have e5 := hG.b5.cell
            simp only [FR]
            go_simp
            refine And.intro (wfn _) (And.intro wdep ?_)
            refine (CallsIn.inRound l (callsIn_wide.2 (count_any x hxm _))).mono ?_
            rintro e W6 ⟨rfl, hb6⟩
            exact hK _ _ ⟨u, Or.inl ⟨b0, b1, true, true, b4, b5, fun _ => rfl, fun h => rfl, q5, by omega, rfl, rfl, (hG.below hBz hb6)⟩⟩
          | 4, _ =>
            simp at hun; subst hun
            simp at ho; subst ho
            simp [Region.binds] at haf
            obtain rfl := haf
            obtain rfl := q3 rfl
            clear hi
            refine wpOpIn_step rfl (fun K hK => ?_)
            have e4 := hG.b4.cell
            have e5 := hG.b5.cell
            simp only [FR]
            go_simp
            exact hK _ _ ⟨u, Or.inl ⟨b0, b1, true, true, true, b5, fun h => rfl, fun _ => rfl, fun h => ⟨(q5 h).1, rfl⟩, by omega, rfl, rfl, hG⟩⟩
          | 5, _ =>
            simp at hun; subst hun
            simp at ho; subst ho
            simp [Region.binds] at haf
            obtain ⟨rfl, rfl⟩ := haf
            obtain rfl := q4 rfl
            obtain rfl := q3 rfl
            clear hi
            refine wpOpIn_step rfl (fun K hK => ?_)
            have e4 := hG.b4.cell
            have e5 := hG.b5.cell
            simp only [FR]
            go_simp
            exact hK _ _ ⟨u, Or.inl ⟨b0, true, true, true, true, true, fun h => rfl, fun h => rfl, fun _ => ⟨rfl, rfl⟩, by omega, rfl, rfl, hG⟩⟩
          | 6, _ =>
            simp at ho; subst ho
            simp [Region.binds] at haf
            subst haf
            obtain ⟨rfl, rfl⟩ := q5 rfl
            obtain rfl := q4 rfl
            obtain rfl := q3 rfl
            clear hi
            refine wpOpIn_step rfl (fun K hK => ?_)
            simp only [FR]
            go_simp
            exact hK _ _ ⟨u, Or.inr (Or.inl ⟨b0, w1, by omega, rfl, rfl, hG, rfl⟩)⟩
          | 7, _ =>
            simp at ho; subst ho
            simp [Region.binds] at haf
          | 8, _ =>
            simp at ho; subst ho
            simp [Region.binds] at haf
      · refine ⟨fun h => ?_, fun i hi => ?_⟩
        · have nr := List.eq_nil_iff_forall_not_mem.1 h
          cases b0 with
          | false => exact absurd (mem_ready.2 ⟨rfl, _, rfl, by simp [Region.binds]⟩) (nr 0)
          | true => exact absurd (mem_ready.2 ⟨rfl, _, rfl, by simp [Region.binds]⟩) (nr 7)
        · obtain ⟨hun, o, ho, haf⟩ := mem_ready.1 hi
          have ef : fls false = 1 := rfl
          have et : fls true = 0 := rfl
          have hi9 : i < 9 := by
            have := (Array.getElem?_eq_some_iff.1 ho).1
            simpa using this
          match i, hi9 with
          | 0, _ =>
            simp at hun; subst hun
            clear hi
            refine wpOpIn_step rfl (fun K hK => ?_)
            have e4 := hG.b4.cell
            have hlt4 := hG.b4.lt
            simp only [FR]
            go_simp
            exact hK _ _ ⟨u, Or.inr (Or.inl ⟨true, X, by omega, rfl, rfl, hG, rfl⟩)⟩
          | 1, _ => simp at hun
          | 2, _ => simp at hun
          | 3, _ => simp at hun
          | 4, _ => simp at hun
          | 5, _ => simp at hun
          | 6, _ => simp at hun
          | 7, _ =>
            simp at ho; subst ho
            simp [Region.binds] at haf
            subst haf
            clear hi
            have hXs : w.heap.size + 11 ≤ X.heap.size := Nat.le_trans hBz hG.tch.size
            obtain ⟨v6, w6, hrun, hown6, hgrow6, _⟩ := run_append_own (P := Tryd.prog) (w := X.alloc (.cells #[.int .i64 1, .string ⟨#[10]⟩, .int .i64 1, .int .i64 (((starts x).length + 1 : Nat) : Int)] 32)) (w.heap.size + 11) 22 22 32 ic _ 4 40 Tryd.underlying22 hic hz0 hz1 hz2 rfl (by decide) (.slice ad5 (cutR x).1.length cap5) (cutR x).1.length (flatT 1 (cutR x).1) (hG.row.alloc _) ⟨X.heap.size, 0, none⟩ 1 1 [.int .i64 1, .string ⟨#[10]⟩, .int .i64 1, .int .i64 (((starts x).length + 1 : Nat) : Int)] rfl (four_new _ _ _ _ _ _) (by simp [Value.oneCell']) (by unfold maxLen; omega) (by omega) (by simp; omega)
            obtain ⟨g6, c6, rfl⟩ := ownsRow_succ hown6
            refine wpOpIn_step rfl (fun K hK => ?_)
            refine step_append_in rfl (.tmp 37) (.tmp 43) 22 22 rfl (.slice ad5 (cutR x).1.length cap5) (.slice (some ⟨X.heap.size, 0, none⟩) 1 1) (by rfl) (by rfl) _ w6 hrun ?_
            have hown : ∀ g, (Value.slice ad5 (cutR x).1.length cap5).ownBlock = some g → w.heap.size + 11 ≤ g := fun g hg => (ownsRow_block hG.row g hg).1
            have keep : ∀ q, q < w.heap.size + 11 → w6.heap[q]? = X.heap[q]? := fun q hq => by
              rw [hgrow6.block q (by simp; omega) (fun e => by have := hown q e.symm; omega)]
              exact Below.heap_alloc X _ q (by omega)
            refine hK _ _ ⟨u, Or.inr (Or.inr (Or.inl ⟨_, g6, c6, by omega, rfl, rfl, (keep _ (by omega)).trans hG.b4, (keep _ (by omega)).trans hG.b5, hown6, hgrow6.os.trans hG.tch.os, hgrow6.tape.trans hG.tch.tape, hgrow6.output.trans hG.tch.output, ?_, fun q hq hqb => (keep q hq).trans (hG.tch.block q hq hqb)⟩))⟩
            have z1 := hgrow6.size
            have z2 := hG.tch.size
            simp at z1
            omega
          | 8, _ =>
            simp at ho; subst ho
            simp [Region.binds] at haf
      · refine ⟨fun h => ?_, fun i hi => ?_⟩
        · exact absurd (mem_ready.2 ⟨rfl, _, rfl, by simp [Region.binds]⟩) (List.eq_nil_iff_forall_not_mem.1 h 8)
        · obtain ⟨hun, o, ho, haf⟩ := mem_ready.1 hi
          have hi9 : i < 9 := by
            have := (Array.getElem?_eq_some_iff.1 ho).1
            simpa using this
          match i, hi9 with
          | 0, _ => simp at hun
          | 1, _ => simp at hun
          | 2, _ => simp at hun
          | 3, _ => simp at hun
          | 4, _ => simp at hun
          | 5, _ => simp at hun
          | 6, _ => simp at hun
          | 7, _ => simp at hun
          | 8, _ =>
            clear hi
            obtain rfl : k = 0 := by omega
            clear hk
            have e4 := g4.cell
            have e5 := g4.frozen
            have HH : Hid (Boxed w1 (w.heap.size + 4) 22 (.slice ad5 (cutR x).1.length cap5) ∧ Boxed w1 (w.heap.size + 5) 3 (.int .i64 1) ∧ w1.ownsRow (w.heap.size + 11) 32 4 (.slice (some ⟨g6, 0, none⟩) ((cutR x).1.length + 1) c6) ((cutR x).1.length + 1) (xxS x [x]) ∧ TchB (w.heap.size + 11) (w.heap.size + 4) W7 w1) := ⟨g4, g5, gr, gt⟩
            clear g4 g5 gr gt hun ho haf
            refine wpOpIn_step rfl (fun K hK => ?_)
            simp only [FR]
            go_simp
            exact hK _ _ ⟨u, Or.inr (Or.inr (Or.inr ⟨_, w1, rfl, rfl, rfl, HH.out⟩))⟩
      · omega
  case done =>
    rintro W ⟨⟨v, hv, hrow⟩, h5, h0, h1, h2, h3, hb⟩ hK
    obtain ⟨ad, cap, rfl, _⟩ := ownsRow_form hrow
    have hcv := hv.cell
    have q0 : Boxed W w.heap.size 22 (.slice none 0 0) := h0
    have q1 : Boxed W (w.heap.size + 1) 23 (.int .i64 0) := h1
    have q2 : Boxed W (w.heap.size + 2) 3 (.int .i64 0) := h2
    have q3 : Boxed W (w.heap.size + 3) 3 (.int .i64 0) := h3
    have c0 := q0.cell
    have f0 := q0.frozen
    obtain ⟨A1, hA1⟩ : ∃ A1, A1 = W.setCell ⟨w.heap.size, 0, none⟩ (.slice ad (kkS s [s]) cap) := ⟨_, rfl⟩
    have r0 : Boxed A1 w.heap.size 22 (.slice ad (kkS s [s]) cap) := by rw [hA1]; exact q0.set _
    have r1 : Boxed A1 (w.heap.size + 1) 23 (.int .i64 0) := by rw [hA1]; exact q1.other (by omega) _
    have r2 : Boxed A1 (w.heap.size + 2) 3 (.int .i64 0) := by rw [hA1]; exact q2.other (by omega) _
    have r3 : Boxed A1 (w.heap.size + 3) 3 (.int .i64 0) := by rw [hA1]; exact q3.other (by omega) _
    have c1 := r1.cell
    have f1 := r1.frozen
    obtain ⟨A2, hA2⟩ : ∃ A2, A2 = A1.setCell ⟨w.heap.size + 1, 0, none⟩ (.int .i64 0) := ⟨_, rfl⟩
    have s0 : Boxed A2 w.heap.size 22 (.slice ad (kkS s [s]) cap) := by rw [hA2]; exact r0.other (by omega) _
    have s1 : Boxed A2 (w.heap.size + 1) 23 (.int .i64 0) := by rw [hA2]; exact r1.set _
    have s2 : Boxed A2 (w.heap.size + 2) 3 (.int .i64 0) := by rw [hA2]; exact r2.other (by omega) _
    have s3 : Boxed A2 (w.heap.size + 3) 3 (.int .i64 0) := by rw [hA2]; exact r3.other (by omega) _
    have c2 := s2.cell
    have f2 := s2.frozen
    obtain ⟨A3, hA3⟩ : ∃ A3, A3 = A2.setCell ⟨w.heap.size + 2, 0, none⟩ (.int .i64 0) := ⟨_, rfl⟩
    have t0 : Boxed A3 w.heap.size 22 (.slice ad (kkS s [s]) cap) := by rw [hA3]; exact s0.other (by omega) _
    have t1 : Boxed A3 (w.heap.size + 1) 23 (.int .i64 0) := by rw [hA3]; exact s1.other (by omega) _
    have t2 : Boxed A3 (w.heap.size + 2) 3 (.int .i64 0) := by rw [hA3]; exact s2.set _
    have t3 : Boxed A3 (w.heap.size + 3) 3 (.int .i64 0) := by rw [hA3]; exact s3.other (by omega) _
    have c3 := t3.cell
    have f3 := t3.frozen
    rw [hA3, hA2, hA1] at c3 f3
    rw [hA2, hA1] at c2 f2
    rw [hA1] at c1 f1
    gi_wp2
    rw [← hA1, ← hA2, ← hA3]
    clear c0 f0 c1 f1 c2 f2 c3 f3
    obtain ⟨A4, hA4⟩ : ∃ A4, A4 = A3.setCell ⟨w.heap.size + 3, 0, none⟩ (.int .i64 0) := ⟨_, rfl⟩
    rw [← hA4]
    have u0 : Boxed A4 w.heap.size 22 (.slice ad (kkS s [s]) cap) := by rw [hA4]; exact t0.other (by omega) _
    have u1 : Boxed A4 (w.heap.size + 1) 23 (.int .i64 0) := by rw [hA4]; exact t1.other (by omega) _
    have u2 : Boxed A4 (w.heap.size + 2) 3 (.int .i64 0) := by rw [hA4]; exact t2.other (by omega) _
    have u3 : Boxed A4 (w.heap.size + 3) 3 (.int .i64 0) := by rw [hA4]; exact t3.set _
    have hK4 : A4.heap[W0.heap.size]? = some (.deferred (some [])) := by
      rw [hA4, hA3, hA2, hA1, set_other (by omega), set_other (by omega), set_other (by omega), set_other (by omega)]
      exact hK
    have hr4 : A4.ownsRow (w.heap.size + 11) 32 4 (.slice ad (kkS s [s]) cap) (kkS s [s]) (xxS s [s]) := by
      rw [hA4, hA3, hA2, hA1]
      exact ownsRow_setCell_below (ownsRow_setCell_below (ownsRow_setCell_below (ownsRow_setCell_below hrow (by show w.heap.size < _; omega) _) (by show w.heap.size + 1 < _; omega) _) (by show w.heap.size + 2 < _; omega) _) (by show w.heap.size + 3 < _; omega) _
    have hb4 : Below w.heap.size w A4 := by
      rw [hA4, hA3, hA2, hA1]
      exact (((hb.setCell (by simp) _).setCell (by simp) _).setCell (by simp) _).setCell (by simp) _
    clear hA1 hA2 hA3 hA4
    have p0 : ∀ o, (A4.putObj W0.heap.size o).cell? ⟨w.heap.size, 0, none⟩ = some (.slice ad (kkS s [s]) cap) := fun o => Boxed.cell (t := 22) ((World.putObj_heap_other (by omega)).trans u0)
    have p1 : ∀ o, (A4.putObj W0.heap.size o).cell? ⟨w.heap.size + 1, 0, none⟩ = some (.int .i64 0) := fun o => Boxed.cell (t := 23) ((World.putObj_heap_other (by omega)).trans u1)
    have p2 : ∀ o, (A4.putObj W0.heap.size o).cell? ⟨w.heap.size + 2, 0, none⟩ = some (.int .i64 0) := fun o => Boxed.cell (t := 3) ((World.putObj_heap_other (by omega)).trans u2)
    have p3 : ∀ o, (A4.putObj W0.heap.size o).cell? ⟨w.heap.size + 3, 0, none⟩ = some (.int .i64 0) := fun o => Boxed.cell (t := 3) ((World.putObj_heap_other (by omega)).trans u3)
    refine ⟨by simp, .inl ⟨_, _, rfl, run_takeDeferred hK4, ?_⟩⟩
    refine ⟨.tuple #[.slice ad (kkS s [s]) cap, .int .i64 0, .int .i64 0, .int .i64 0], by simp [results, Tryd.results9, go_sem, p0, p1, p2, p3], _, rfl, ?_, ?_⟩
    · exact ownsRow_base (ownsRow_putObj hr4 _ hK4 rfl) (by omega)
    · exact hb4.trans (belowK_b (w := w) (Nat.le_refl _) _ W0.heap.size _ _ (by omega) hK4 rfl rfl)
  case stop =>
    rintro c pre W _ h _
    exact h.elim
end Go.Proofs.YtibhljdiofglfaaDoor
