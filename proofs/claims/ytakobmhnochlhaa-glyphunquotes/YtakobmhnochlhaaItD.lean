/- What glyph.Count and glyph.Nth answer: at every text of at most 2^63 - 1 bytes; and that the first call of the statements answers true. -/
import Derived.Test.YtakobmhnochlhaaItC
namespace Go.Proofs.Ytakobmhnochlhaa
open Go.RowKit Go.Shelf
attribute [local go_sem] Oper.semAt_some

set_option maxHeartbeats 400000 in
theorem count_any (s : ByteArray) (hs : s.size ≤ maxLen) (w : World) :
    Calls Try.prog 10 #[.string s] w fun e w' => e = .returned (.int .i64 (starts s).length) ∧ Below w.heap.size w w' := by
  have hlen := starts_length s
  unfold maxLen at hs
  go_enter Try.func10, Try.ntmps10
  go_wp2
  go_loopw [3] (fun c wr => ∃ (pos fuel : Nat) (pre : List Nat), starts s = pre ++ startsFrom s fuel pos ∧ s.size ≤ pos + fuel ∧ c = .int .i64 pre.length ∧ wr.heap[w.heap.size]? = some (.stringIter s pos) ∧ Below w.heap.size w wr) (fun _ wr => s.size - wr.iterPos w.heap.size)
  case atStart =>
    exact ⟨0, s.size, [], rfl, by omega, rfl, World.iter_heap w s 0, (Below.refl _ w).alloc (Nat.le_refl _) _⟩
  case round =>
    obtain ⟨pos, fuel, pre, hst, hfu, rfl, hit, hb⟩ := hrel
    by_cases hp : pos < s.size
    · have hnx : ∀ ty, (Instr.next (.pointer (some ⟨w.heap.size, 0, none⟩)) true ty).run Try.prog wr = .ok (.tuple #[.bool true, .int .i64 pos, .int .i32 (rn s pos)]) (wr.iterAt w.heap.size s (pos + wd s pos)) := fun ty => Lib.run_next_any_at wr w.heap.size s pos ty hit hp
      have hit2 := Lib.iterAt_heap wr w.heap.size s pos (pos + wd s pos) hit
      have hb2 := Lib.below_iterAt hb (k := w.heap.size) (Nat.le_refl _) s (pos + wd s pos)
      obtain ⟨f, rfl⟩ : ∃ f, fuel = f + 1 := ⟨fuel - 1, by omega⟩
      rw [startsFrom_step s f pos hp] at hst
      have hll : pre.length + 1 ≤ s.size := by rw [hst] at hlen; simp at hlen; omega
      have HS : Hid (starts s = pre ++ pos :: startsFrom s f (pos + wd s pos)) := hst
      clear hst
      go_wp2
      go_roundw
      case rel =>
        have := wd_pos s pos
        exact ⟨pos + wd s pos, f, pre ++ [pos], by rw [HS.out]; simp, by omega, by simp, hit2, hb2⟩
      case measure =>
        have := wd_pos s pos
        simp only [World.iterPos, hit2, hit]
        omega
    · have hnx : ∀ ty, (Instr.next (.pointer (some ⟨w.heap.size, 0, none⟩)) true ty).run Try.prog wr = .ok (.tuple #[.bool false]) wr := fun ty => Lib.run_next_end_at wr w.heap.size s pos ty hit hp
      rw [startsFrom_end s fuel pos hp, List.append_nil] at hst
      subst hst
      go_wp2
      go_ret
      exact ⟨rfl, hb⟩

/-- A block of cells. -/
theorem blk_own {β : Type} (B : Nat) (f : β → Obj) (hc : ∀ s, (f s).isCells = true) : Own (fun s W => W.heap[B]? = some (f s)) := fun s X Y row hs hg hrow => by
  refine (hg.block B (Array.getElem?_eq_some_iff.1 hs).1 (fun e' => ?_)).trans hs
  obtain ⟨o, ho, hcf⟩ := hrow B e'.symm
  rw [hs] at ho
  cases ho
  rw [hc] at hcf
  cases hcf
theorem get_old {w : World} {o o' : Obj} {k : Nat} (h : w.heap[k]? = some o') : (w.alloc o).heap[k]? = some o' := (Below.heap_alloc w o k (Array.getElem?_eq_some_iff.1 h).1).trans h
theorem get_new {w : World} {o : Obj} {k : Nat} (h : k = w.heap.size) : (w.alloc o).heap[k]? = some o := by subst h; exact World.alloc_heap_new w o
theorem alloc_get (w : World) (o : Obj) (k : Nat) : (w.alloc o).heap[k]? = if k = w.heap.size then some o else w.heap[k]? := by
  show (w.heap.push o)[k]? = _
  rw [Array.getElem?_push]
theorem set_get {W : World} {B : Nat} {cs : Array Value} {t : TypeId} {z : Nat × Nat} (j : Nat) (v : Value) (h : W.heap[B]? = some (.cells cs t z)) : (W.setCell ⟨B, j, none⟩ v).heap[B]? = some (.cells (cs.setIfInBounds j v) t z) := by
  simp [World.setCell, Array.getElem?_modify, h]
theorem set_other {W : World} {B B' j : Nat} {v : Value} (h : B ≠ B') : (W.setCell ⟨B', j, none⟩ v).heap[B]? = W.heap[B]? := Below.heap_setCell _ _ _ _ h
theorem cell_of {W : World} {B : Nat} {cs : Array Value} {t : TypeId} {z : Nat × Nat} (h : W.heap[B]? = some (.cells cs t z)) (j : Nat) : W.cell? ⟨B, j, none⟩ = cs[j]? := by simp [World.cell?, h]
theorem frozen_of {W : World} {B : Nat} {cs : Array Value} {t : TypeId} (h : W.heap[B]? = some (.cells cs t (0, 0))) (j : Nat) : W.frozen? ⟨B, j, none⟩ = false := by simp [World.frozen?, h]

theorem Kept.setCell {bx B m : Nat} {W : World} {B' j : Nat} {v : Value} (h1 : B' ≠ bx) (h2 : B' < B ∨ B + m ≤ B') : Kept bx B m W (W.setCell ⟨B', j, none⟩ v) :=
  ⟨by simp [World.setCell], set_other (Ne.symm h1), fun k h3 h4 => set_other (by omega)⟩
/-- A block of four cells, and one of one cell, written over. -/
def put5 (W : World) (B : Nat) (a b c d e : Value) : World := ((((W.setCell ⟨B, 0, none⟩ a).setCell ⟨B, 1, none⟩ b).setCell ⟨B, 2, none⟩ c).setCell ⟨B, 3, none⟩ d).setCell ⟨B + 1, 0, none⟩ e
theorem put5_one {W : World} {B : Nat} {a b c d e a0 b0 c0 d0 : Value} {t : TypeId} (h : W.heap[B]? = some (.cells #[a0, b0, c0, d0] t)) : (put5 W B a b c d e).heap[B]? = some (.cells #[a, b, c, d] t) :=
  (set_other (by omega)).trans (set_get 3 d (set_get 2 c (set_get 1 b (set_get 0 a h))))
theorem put5_two {W : World} {B : Nat} {a b c d e e0 : Value} {t : TypeId} (h : W.heap[B + 1]? = some (.cells #[e0] t)) : (put5 W B a b c d e).heap[B + 1]? = some (.cells #[e] t) :=
  set_get 0 e ((set_other (by omega)).trans ((set_other (by omega)).trans ((set_other (by omega)).trans ((set_other (by omega)).trans h))))
theorem put5_other {W : World} {B k : Nat} {a b c d e : Value} (h1 : k ≠ B) (h2 : k ≠ B + 1) : (put5 W B a b c d e).heap[k]? = W.heap[k]? :=
  (set_other h2).trans ((set_other h1).trans ((set_other h1).trans ((set_other h1).trans (set_other h1))))
theorem put5_below {W w : World} {B n : Nat} {a b c d e : Value} (h : Below n w W) (hB : n ≤ B) : Below n w (put5 W B a b c d e) :=
  ((((h.setCell (p := ⟨B, 0, none⟩) hB a).setCell (p := ⟨B, 1, none⟩) hB b).setCell (p := ⟨B, 2, none⟩) hB c).setCell (p := ⟨B, 3, none⟩) hB d).setCell (p := ⟨B + 1, 0, none⟩) (Nat.le_succ_of_le hB) e
theorem put5_kept {bx L m : Nat} {W : World} {B : Nat} {a b c d e : Value} (h1 : B + 1 < L) (h2 : B + 1 < bx) : Kept bx L m W (put5 W B a b c d e) :=
  (((((Kept.setCell (by omega) (by omega)).trans (Kept.setCell (by omega) (by omega))).trans (Kept.setCell (by omega) (by omega))).trans (Kept.setCell (by omega) (by omega))).trans (Kept.setCell (by omega) (by omega)))

/-- Which character Nth tells. -/
def nthO (s : ByteArray) (i : Int) : Option Nat := if i < 0 then none else (starts s)[i.toNat]?
/-- The four cells of a character; and of none. -/
def chC (s : ByteArray) (p : Nat) : Array Value := #[.int .i32 (rn s p), .int .i64 p, .int .i64 (wd s p), .bool (looseB s p)]
def noC : Array Value := #[.int .i32 0, .int .i64 0, .int .i64 0, .bool false]
def nthV (s : ByteArray) (i : Int) : Value := match nthO s i with
  | some p => .tuple #[.agg (chC s p), .int .i64 0]
  | none => .tuple #[.agg noC, .int .i64 3]

theorem nthO_hit {s : ByteArray} {pre : List Nat} {x : Nat} (hpr : pre ++ [x] <+: starts s) : nthO s (pre.length : Int) = some x := by
  obtain ⟨r, hr⟩ := hpr
  unfold nthO
  rw [if_neg (by omega), Int.toNat_natCast, ← hr]
  simp
theorem nthO_miss {s : ByteArray} {i : Int} (h : ¬ (0 ≤ i ∧ i < ((starts s).length : Int))) : nthO s i = none := by
  unfold nthO
  by_cases h0 : i < 0
  · rw [if_pos h0]
  · rw [if_neg h0, List.getElem?_eq_none]
    omega

/-- What Nth hands back: what its two result variables hold. -/
theorem nth_end (W : World) (tmps : Array Value) (B : Nat) (a b c d e : Value) (h4 : tmps[4]? = some (.pointer (some ⟨B, 0, none⟩))) (h5 : tmps[5]? = some (.pointer (some ⟨B + 1, 0, none⟩)))
    (h1 : W.heap[B]? = some (.cells #[a, b, c, d] 31)) (h2 : W.heap[B + 1]? = some (.cells #[e] 22)) (R : Ending → World → Prop) (h : R (.returned (.tuple #[.agg #[a, b, c, d], e])) W) :
    LeavesInM Fence.wide 0 Try.prog Try.f9 tmps R [] .returning W := by
  have c0 : W.cell? ⟨B, 0, none⟩ = some a := cell_of h1 0
  have c1 : W.cell? ⟨B, 1, none⟩ = some b := cell_of h1 1
  have c2 : W.cell? ⟨B, 2, none⟩ = some c := cell_of h1 2
  have c3 : W.cell? ⟨B, 3, none⟩ = some d := cell_of h1 3
  have ce : W.cell? ⟨B + 1, 0, none⟩ = some e := cell_of h2 0
  refine ⟨.tuple #[.agg #[a, b, c, d], e], ?_, h⟩
  simp [results, Try.results9, go_sem, c0, c1, c2, c3, ce, h4, h5]

set_option maxHeartbeats 1000000 in
theorem nth_in (s : ByteArray) (hs : s.size ≤ maxLen) (i : Int) (w : World) :
    CallsIn Fence.wide 0 Try.prog 9 #[.string s, .int .i64 i] w fun e w' => e = .returned (nthV s i) ∧ Below w.heap.size w w' := by
  have hlen := starts_length s
  have hs' := hs
  unfold maxLen at hs'
  refine callsIn_of_wp_marks Try.func9 rfl trivial ?_ rfl
  simp only [Try.ntmps9, List.size_toArray, List.length_cons, List.length_nil, Nat.reduceAdd, Nat.reduceSub, Array.replicate_succ, Array.replicate_zero, List.push_toArray, List.append_toArray, List.nil_append, List.cons_append]
  gi_wp2_with (with_reducible (refine And.intro (wfn _) (And.intro wdep ?_)); gi_at_call 20; refine (callsIn_wide.2 (each_any s _)).mono ?_; rintro e w' ⟨rfl, rfl⟩)
  obtain ⟨W0, hW0⟩ : ∃ W0, (((((w.alloc (.cells #[.int .i64 i] 3)).alloc (.cells #[.int .i32 0, .int .i64 0, .int .i64 0, .bool false] 31)).alloc (.cells #[.int .i64 0] 22)).alloc (.cells #[.int .i64 0] 3)).alloc (.cells #[.string s] 9)) = W0 := ⟨_, rfl⟩
  have z0 : W0.heap.size = w.heap.size + 5 := by rw [← hW0]; simp
  have b0 : Below w.heap.size w W0 := by rw [← hW0]; exact (((((Below.refl _ w).alloc (by simp) _).alloc (by simp) _).alloc (by simp; omega) _).alloc (by simp; omega) _).alloc (by simp; omega) _
  have i0 : W0.heap[w.heap.size]? = some (.cells #[.int .i64 i] 3) := by rw [← hW0]; exact get_old (get_old (get_old (get_old (get_new (by simp)))))
  have r0 : W0.heap[w.heap.size + 1]? = some (.cells noC 31) := by rw [← hW0]; exact get_old (get_old (get_old (get_new (by simp))))
  have e0 : W0.heap[w.heap.size + 1 + 1]? = some (.cells #[.int .i64 0] 22) := by rw [← hW0]; exact get_old (get_old (get_new (by simp)))
  have c0 : W0.heap[w.heap.size + 1 + 1 + 1]? = some (.cells #[.int .i64 0] 3) := by rw [← hW0]; exact get_old (get_new (by simp))
  have x0 : Boxed W0 (w.heap.size + 1 + 1 + 1 + 1) 9 (.string s) := by show W0.heap[_]? = _; rw [← hW0]; exact get_new (by simp)
  rw [hW0]
  clear hW0
  refine wp_range (kb := 0) (gf := 30) (lb := #[.pointer (some ⟨w.heap.size + 1 + 1 + 1 + 1, 0, none⟩)]) rfl (enters_of Try.func30 (by kernel_rfl) rfl)
    (each1_seq s hs (w.heap.size + 1 + 1 + 1 + 1) _ x0) (by omega) (fun _ => rfl)
    (fun pre W => (W.heap[w.heap.size]? = some (.cells #[.int .i64 i] 3) ∧ W.heap[w.heap.size + 1]? = some (.cells noC 31) ∧ W.heap[w.heap.size + 1 + 1]? = some (.cells #[.int .i64 0] 22) ∧ W.heap[w.heap.size + 1 + 1 + 1]? = some (.cells #[.int .i64 pre.length] 3)) ∧ (Below w.heap.size w W ∧ ¬ (0 ≤ i ∧ i < (pre.length : Int))))
    (fun c pre W => (W.heap[w.heap.size + 1]? = some (.cells (chC s (pre.getLastD 0)) 31) ∧ W.heap[w.heap.size + 1 + 1]? = some (.cells #[.int .i64 0] 22)) ∧ (Below w.heap.size w W ∧ (c = .ret ∧ nthO s i = some (pre.getLastD 0))))
    (OwnFrom.and ((blk_own _ (fun _ => _) (fun _ => rfl)).from _ |>.and (((blk_own _ (fun _ => _) (fun _ => rfl)).from _).and (((blk_own _ (fun _ => _) (fun _ => rfl)).from _).and ((blk_own _ (fun pre : List Nat => .cells #[.int .i64 pre.length] 3) (fun _ => rfl)).from _)))) (OwnFrom.and (ownFrom_below (Nat.le_refl _) (by omega)) (ownFrom_pure _ (fun pre : List Nat => ¬ (0 ≤ i ∧ i < (pre.length : Int))))))
    (fun c => OwnFrom.and (((blk_own _ (fun pre : List Nat => .cells (chC s (pre.getLastD 0)) 31) (fun _ => rfl)).from _).and ((blk_own _ (fun _ => _) (fun _ => rfl)).from _)) (OwnFrom.and (ownFrom_below (Nat.le_refl _) (by omega)) (ownFrom_pure _ (fun pre : List Nat => c = .ret ∧ nthO s i = some (pre.getLastD 0)))))
    ⟨⟨i0, r0, e0, c0⟩, b0, by simp⟩
    (fun x a' W => ∃ Bx, W0.heap.size + (5 + 2) ≤ Bx ∧ W.heap[Bx]? = some (.cells (chC s x) 31) ∧ a' = { tmps := #[.string s, .int .i64 i, undef, .pointer (some ⟨w.heap.size, 0, none⟩), .pointer (some ⟨w.heap.size + 1, 0, none⟩), .pointer (some ⟨w.heap.size + 1 + 1, 0, none⟩), .pointer (some ⟨w.heap.size + 1 + 1 + 1, 0, none⟩), .pointer (some ⟨Bx, 0, none⟩), .string s, .func (.func 30) #[] #[.pointer (some ⟨w.heap.size + 1 + 1 + 1 + 1, 0, none⟩)], chV s x, undef, undef, undef, undef, undef, undef, undef], defers := [] })
    ?ax ?assign ?body ?done ?stop
  case ax =>
    rintro x a' _ X Y row ⟨Bx, h1, h2, h3⟩ hg hr
    exact ⟨Bx, h1, ((blk_own Bx (fun _ : Unit => .cells (chC s x) 31) (fun _ => rfl)).from _) () X Y row h2 hg hr, h3⟩
  case assign =>
    rintro l pre x W K ⟨⟨hi, hr, he, hc⟩, hb, hn⟩ hsz hK
    simp only [chV]
    gi_wp2
    exact hK _ _ (Kept.below ((Below.refl _ W).alloc (Nat.le_refl _) _) (by omega) (by omega)) ⟨⟨get_old hi, get_old hr, get_old he, get_old hc⟩, hb.alloc (by omega) _, hn⟩ ⟨W.heap.size, hsz, get_new rfl, rfl⟩
  case body =>
    rintro l pre x a' W ⟨⟨hi, hr, he, hc⟩, hb, hn⟩ ⟨Bx, hBx, hx, rfl⟩ hsz hpr
    have ci : W.cell? ⟨w.heap.size, 0, none⟩ = some (.int .i64 i) := cell_of hi 0
    have cc : W.cell? ⟨w.heap.size + 1 + 1 + 1, 0, none⟩ = some (.int .i64 pre.length) := cell_of hc 0
    have fc := frozen_of hc 0
    have x0 : W.cell? ⟨Bx, 0, none⟩ = some (.int .i32 (rn s x)) := cell_of hx 0
    have x1 : W.cell? ⟨Bx, 1, none⟩ = some (.int .i64 x) := cell_of hx 1
    have x2 : W.cell? ⟨Bx, 2, none⟩ = some (.int .i64 (wd s x)) := cell_of hx 2
    have x3 : W.cell? ⟨Bx, 3, none⟩ = some (.bool (looseB s x)) := cell_of hx 3
    have f0 := frozen_of hr 0
    have f1 := frozen_of hr 1
    have f2 := frozen_of hr 2
    have f3 := frozen_of hr 3
    have r0 : W.cell? ⟨w.heap.size + 1, 0, none⟩ = some (.int .i32 0) := cell_of hr 0
    have r1 : W.cell? ⟨w.heap.size + 1, 1, none⟩ = some (.int .i64 0) := cell_of hr 1
    have r2 : W.cell? ⟨w.heap.size + 1, 2, none⟩ = some (.int .i64 0) := cell_of hr 2
    have r3 : W.cell? ⟨w.heap.size + 1, 3, none⟩ = some (.bool false) := cell_of hr 3
    have ce : W.cell? ⟨w.heap.size + 1 + 1, 0, none⟩ = some (.int .i64 0) := cell_of he 0
    have fe := frozen_of he 0
    by_cases heq : (pre.length : Int) = i
    · subst heq
      gi_wp2
      exact ⟨put5_kept (W := W) (B := w.heap.size + 1) (by omega) (by omega), ⟨by simp only [List.getLastD_concat]; exact put5_one hr, put5_two he⟩, put5_below hb (by omega), rfl, by simp only [List.getLastD_concat]; exact nthO_hit hpr⟩
    · have hpl : (pre ++ [x]).length ≤ (starts s).length := hpr.length_le
      simp only [List.length_append, List.length_cons, List.length_nil] at hpl
      have hll : (pre.length : Int) < 9223372036854775807 := by omega
      clear hpl
      have hq : ((pre.length : Int) == i) = false := beq_eq_false_iff_ne.2 heq
      gi_wp2
      refine ⟨Kept.setCell (by omega) (by omega), ⟨(set_other (by omega)).trans hi, (set_other (by omega)).trans hr, (set_other (by omega)).trans he, ?_⟩, hb.setCell (by simp; omega) _, by simp; omega⟩
      rw [set_get 0 _ hc]
      simp
  case done =>
    rintro W ⟨⟨hi, hr, he, hc⟩, hb, hn⟩ hK
    have f0 := frozen_of hr 0
    have f1 := frozen_of hr 1
    have f2 := frozen_of hr 2
    have f3 := frozen_of hr 3
    have r0 : W.cell? ⟨w.heap.size + 1, 0, none⟩ = some (.int .i32 0) := cell_of hr 0
    have r1 : W.cell? ⟨w.heap.size + 1, 1, none⟩ = some (.int .i64 0) := cell_of hr 1
    have r2 : W.cell? ⟨w.heap.size + 1, 2, none⟩ = some (.int .i64 0) := cell_of hr 2
    have r3 : W.cell? ⟨w.heap.size + 1, 3, none⟩ = some (.bool false) := cell_of hr 3
    have ce : W.cell? ⟨w.heap.size + 1 + 1, 0, none⟩ = some (.int .i64 0) := cell_of he 0
    have fe := frozen_of he 0
    gi_wp2
    have hp : ∀ k, k ≠ w.heap.size + 1 → k ≠ w.heap.size + 1 + 1 → (put5 W (w.heap.size + 1) (.int .i32 0) (.int .i64 0) (.int .i64 0) (.bool false) (.int .i64 3)).heap[k]? = W.heap[k]? := fun k h1 h2 => put5_other h1 h2
    have hK5 := (hp W0.heap.size (by omega) (by omega)).trans hK
    refine ⟨by simp, .inl ⟨_, _, rfl, run_takeDeferred hK5, ?_⟩⟩
    have h1 := put5_one (a := .int .i32 0) (b := .int .i64 0) (c := .int .i64 0) (d := .bool false) (e := .int .i64 3) hr
    have h2 := put5_two (a := .int .i32 0) (b := .int .i64 0) (c := .int .i64 0) (d := .bool false) (e := .int .i64 3) he
    have h3 := (World.putObj_heap_other (o := .deferred none) (show w.heap.size + 1 ≠ W0.heap.size by omega)).trans h1
    have h4 := (World.putObj_heap_other (o := .deferred none) (show w.heap.size + 1 + 1 ≠ W0.heap.size by omega)).trans h2
    refine nth_end _ _ (w.heap.size + 1) _ _ _ _ _ rfl rfl h3 h4 _ ⟨?_, ?_⟩
    · rw [nthV, nthO_miss hn]; rfl
    · exact (put5_below hb (by omega)).trans (belowK_b (w := w) (Nat.le_refl _) _ W0.heap.size _ _ (by omega) hK5 rfl rfl)
  case stop =>
    rintro c pre W hpr ⟨⟨hr, he⟩, hb, rfl, hO⟩ hK
    gi_wp2
    refine ⟨by simp, .inl ⟨_, _, rfl, run_takeDeferred hK, ?_⟩⟩
    have h3 := (World.putObj_heap_other (o := .deferred none) (show w.heap.size + 1 ≠ W0.heap.size by omega)).trans hr
    have h4 := (World.putObj_heap_other (o := .deferred none) (show w.heap.size + 1 + 1 ≠ W0.heap.size by omega)).trans he
    refine nth_end _ _ (w.heap.size + 1) _ _ _ _ _ rfl rfl h3 h4 _ ⟨?_, ?_⟩
    · rw [nthV, hO]; rfl
    · exact hb.trans (belowK_b (w := w) (Nat.le_refl _) _ W0.heap.size _ _ (by omega) hK rfl rfl)
theorem nth_any (s : ByteArray) (hs : s.size ≤ maxLen) (i : Int) (w : World) :
    Calls Try.prog 9 #[.string s, .int .i64 i] w fun e w' => e = .returned (nthV s i) ∧ Below w.heap.size w w' := callsIn_wide.1 (nth_in s hs i w)

/-- The text of that first call. -/
def aliveS : ByteArray := ⟨#[97, 195, 169, 226, 152, 131]⟩
theorem alive_nth : nthV aliveS 2 = .tuple #[.agg #[.int .i32 9731, .int .i64 3, .int .i64 3, .bool false], .int .i64 0] := by
  have h : nthO aliveS 2 = some 3 := by decide +kernel
  have h1 : rn aliveS 3 = 9731 := by decide +kernel
  have h2 : wd aliveS 3 = 3 := by decide +kernel
  have h3 : looseB aliveS 3 = false := by decide +kernel
  simp only [nthV, h, chC, h1, h2, h3]
  rfl
theorem alive_count : ((starts aliveS).length : Int) = 3 := by decide +kernel

set_option maxHeartbeats 400000 in
theorem alive_any (w : World) : Calls Try.prog 6 #[] w fun e w' => e = .returned (.bool true) ∧ Below w.heap.size w w' := by
  have hsz : aliveS.size ≤ maxLen := by decide
  have N : Hid (∀ w, Calls Try.prog 9 #[.string ⟨#[97, 195, 169, 226, 152, 131]⟩, .int .i64 2] w fun e w' => e = .returned (.tuple #[.agg #[.int .i32 9731, .int .i64 3, .int .i64 3, .bool false], .int .i64 0]) ∧ Below w.heap.size w w') := fun w => by
    have := nth_any aliveS hsz 2 w
    rw [alive_nth] at this
    exact this
  have C : Hid (∀ w, Calls Try.prog 10 #[.string ⟨#[97, 195, 169, 226, 152, 131]⟩] w fun e w' => e = .returned (.int .i64 3) ∧ Below w.heap.size w w') := fun w => by
    have := count_any aliveS hsz w
    rw [alive_count] at this
    exact this
  go_enter Try.func6, Try.ntmps6
  go_wp2_with (go_at_call 9; refine (N.out _).mono ?_; rintro e w1 ⟨rfl, hb1⟩)
  refine (C.out _).mono ?_
  rintro e w2 ⟨rfl, hb2⟩
  have hx : w2.heap[w1.heap.size]? = some (.cells #[.int .i32 9731, .int .i64 3, .int .i64 3, .bool false] 31) := (hb2.block _ (by simp)).trans (get_new rfl)
  have x0 : w2.cell? ⟨w1.heap.size, 0, none⟩ = some (.int .i32 9731) := cell_of hx 0
  have x1 : w2.cell? ⟨w1.heap.size, 1, none⟩ = some (.int .i64 3) := cell_of hx 1
  go_wp2
  go_ret
  exact ⟨rfl, hb1.trans (((Below.refl _ w1).alloc hb1.size _).trans (hb2.mono (by have := hb1.size; simp; omega)))⟩
end Go.Proofs.Ytakobmhnochlhaa
