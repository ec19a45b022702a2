/- Rows that a call owns: what turns them, and what does not. -/
import Derived.Test.YtnkpohkodkjkfaaGreatDoorJpJ22
import Derived.Test.YtnkpohkodkjkfaaGreatDoorJpJ25
import Derived.Maps.AppendAt
import Derived.Maps.OwnIn
import Derived.OwnWalk
import Derived.RangeFuncBox
import Derived.RangeFuncNested
import Derived.Test.YtnkpohkodkjkfaaGreatDoorJpJ11
import Derived.Test.YtnkpohkodkjkfaaGreatDoorJpJ8
import Derived.Test.YtnkpohkodkjkfaaGreatDoorJpJ24
import Derived.Test.YtnkpohkodkjkfaaGreatDoorJpJ15
import Derived.Test.YtnkpohkodkjkfaaGreatDoorJpJ5
import Derived.Laws.EntriesVeiled
set_option maxHeartbeats 40000000
set_option maxRecDepth 100000
set_option linter.unusedVariables false
namespace Go.Proofs.YtnkpohkodkjkfaaGreatDoor
open Go.RowKit Go.Shelf Go.Lib

theorem set_get {W : World} {B : Nat} {cs : Array Value} {t : TypeId} {z : Nat × Nat} (j : Nat) (v : Value) (h : W.heap[B]? = some (.cells cs t z)) : (W.setCell ⟨B, j, none⟩ v).heap[B]? = some (.cells (cs.setIfInBounds j v) t z) := by
  simp [World.setCell, Array.getElem?_modify, h]
theorem set_otherQ {W : World} {B B' j : Nat} {v : Value} (h : B ≠ B') : (W.setCell ⟨B', j, none⟩ v).heap[B]? = W.heap[B]? := Below.heap_setCell _ _ _ _ h
theorem cell_ofQ {W : World} {B : Nat} {cs : Array Value} {t : TypeId} {z : Nat × Nat} (h : W.heap[B]? = some (.cells cs t z)) (j : Nat) : W.cell? ⟨B, j, none⟩ = cs[j]? := by simp [World.cell?, h]
theorem frozen_of {W : World} {B : Nat} {cs : Array Value} {t : TypeId} (h : W.heap[B]? = some (.cells cs t (0, 0))) (j : Nat) : W.frozen? ⟨B, j, none⟩ = false := by simp [World.frozen?, h]
theorem ownsRow_blockQ {w : World} {base : Nat} {e : TypeId} {size : Nat} {v : Value} {n : Nat} {xs : List Value} (h : w.ownsRow base e size v n xs) : ∀ g, v.ownBlock = some g → base ≤ g ∧ ∃ cur, w.heap[g]? = some (.cells cur e (0, 0)) := by
  intro g hg
  rcases h.2 with ⟨rfl, _⟩ | ⟨g', cap, cur, rfl, h4, h5, _⟩
  · cases hg
  · cases hg
    exact ⟨h4, cur, h5⟩
theorem ownsRow_baseQ {w : World} {base base' : Nat} {e : TypeId} {size : Nat} {v : Value} {n : Nat} {xs : List Value} (h : w.ownsRow base e size v n xs) (hle : base' ≤ base) : w.ownsRow base' e size v n xs := by
  obtain ⟨h1, h2⟩ := h
  refine ⟨h1, ?_⟩
  rcases h2 with h2 | ⟨g, cap, cur, h3, h4, h5⟩
  · exact .inl h2
  · exact .inr ⟨g, cap, cur, h3, Nat.le_trans hle h4, h5⟩
theorem ownsRow_putObj {w : World} {base : Nat} {e : TypeId} {size : Nat} {v : Value} {n k : Nat} {xs : List Value} {o : Obj} (h : w.ownsRow base e size v n xs) (o' : Obj) (hk : w.heap[k]? = some o) (ho : o.isCells = false) : (w.putObj k o').ownsRow base e size v n xs := by
  obtain ⟨h1, h2⟩ := h
  refine ⟨h1, ?_⟩
  rcases h2 with h2 | ⟨g, cap, cur, h3, h4, h5, h6⟩
  · exact .inl h2
  · refine .inr ⟨g, cap, cur, h3, h4, (World.putObj_heap_other (fun e => ?_)).trans h5, h6⟩
    subst e
    rw [hk] at h5
    cases h5
    cases ho
theorem ownsRow_succ {w : World} {base : Nat} {e : TypeId} {size : Nat} {v : Value} {n : Nat} {xs : List Value} (h : w.ownsRow base e size v (n + 1) xs) : ∃ g cap, v = .slice (some ⟨g, 0, none⟩) (n + 1) cap := by
  rcases h.2 with ⟨_, h⟩ | ⟨g, cap, cur, rfl, _⟩
  · omega
  · exact ⟨g, cap, rfl⟩
theorem one_new (W : World) (a : Value) (t : TypeId) : ∀ j u, [a][j]? = some u → (W.alloc (.cells #[a] t)).cell? ((⟨W.heap.size, 0, none⟩ : Addr).add j) = some u := by
  intro j u h
  have hg : (W.alloc (.cells #[a] t)).heap[W.heap.size]? = some (.cells #[a] t) := get_newQ rfl
  have ha : (⟨W.heap.size, 0, none⟩ : Addr).add j = ⟨W.heap.size, j, none⟩ := by unfold Addr.add; split <;> simp_all
  rw [ha, cell_ofQ hg j, ← h]
  simp
theorem infoInt : (Tryz.prog.info? 3).map (fun i => (i.zero, i.size, i.bytes)) = some (some (.int .i64 0), 1, 8) := by kernel_rfl
theorem ownsRow_formQ {w : World} {base : Nat} {e : TypeId} {size : Nat} {v : Value} {n : Nat} {xs : List Value} (h : w.ownsRow base e size v n xs) : ∃ ad cap, v = .slice ad n cap ∧ (0 < n → ∃ g, ad = some ⟨g, 0, none⟩ ∧ base ≤ g ∧ g < w.heap.size ∧ n ≤ cap ∧ ∀ j u, xs[j]? = some u → w.cell? ⟨g, j, none⟩ = some u) := by
  obtain ⟨h1, h2⟩ := h
  rcases h2 with ⟨rfl, rfl⟩ | ⟨g, cap, cur, rfl, h4, h5, h6, h7, h8, h9⟩
  · exact ⟨none, 0, rfl, fun h => absurd h (by omega)⟩
  · refine ⟨some ⟨g, 0, none⟩, cap, rfl, fun _ => ⟨g, rfl, h4, (Array.getElem?_eq_some_iff.1 h5).1, h6, fun j u hj => ?_⟩⟩
    rw [cell_ofQ h5 j, ← hj, ← h9, List.getElem?_take]
    have hjl : j < n * size := by have := (List.getElem?_eq_some_iff.1 hj).1; omega
    rw [if_pos hjl, Array.getElem?_toList]
end Go.Proofs.YtnkpohkodkjkfaaGreatDoor
namespace Go.Proofs.YtnkpohkodkjkfaaGreatDoor
open Go.RowKit Go.Shelf
attribute [local go_sem] Oper.semAt_some

theorem Kept.setCell {bx B m : Nat} {W : World} {B' j : Nat} {v : Value} (h1 : B' ≠ bx) (h2 : B' < B ∨ B + m ≤ B') : Kept bx B m W (W.setCell ⟨B', j, none⟩ v) :=
  ⟨by simp [World.setCell], set_other (Ne.symm h1), fun k h3 h4 => set_other (by omega)⟩
/-- A block of four cells, and one of one cell, written over. -/
def put5 (W : World) (B : Nat) (a b c d e : Value) : World := ((((W.setCell ⟨B, 0, none⟩ a).setCell ⟨B, 1, none⟩ b).setCell ⟨B, 2, none⟩ c).setCell ⟨B, 3, none⟩ d).setCell ⟨B + 1, 0, none⟩ e
theorem put5_one {W : World} {B : Nat} {a b c d e a0 b0 c0 d0 : Value} {t : TypeId} (h : W.heap[B]? = some (.cells #[a0, b0, c0, d0] t)) : (put5 W B a b c d e).heap[B]? = some (.cells #[a, b, c, d] t) :=
  (set_other (by omega)).trans (set_get 3 d (set_get 2 c (set_get 1 b (set_get 0 a h))))
theorem put5_two {W : World} {B : Nat} {a b c d e e0 : Value} {t : TypeId} (h : W.heap[B + 1]? = some (.cells #[e0] t)) : (put5 W B a b c d e).heap[B + 1]? = some (.cells #[e] t) :=
  set_get 0 e ((set_other (by omega)).trans ((set_other (by omega)).trans ((set_other (by omega)).trans ((set_other (by omega)).trans h))))
theorem put5_other {W : World} {B k : Nat} {a b c d e : Value} (h1 : k ≠ B) (h2 : k ≠ B + 1) : (put5 W B a b c d e).heap[k]? = W.heap[k]? :=
  (set_other h2).trans ((set_other h1).trans ((set_other h1).trans ((set_other h1).trans (set_other h1))))
theorem put5_below {W w : World} {B n : Nat} {a b c d e : Value} (h : Below n w W) (hB : n ≤ B) : Below n w (put5 W B a b c d e) :=
  ((((h.setCell (p := ⟨B, 0, none⟩) hB a).setCell (p := ⟨B, 1, none⟩) hB b).setCell (p := ⟨B, 2, none⟩) hB c).setCell (p := ⟨B, 3, none⟩) hB d).setCell (p := ⟨B + 1, 0, none⟩) (Nat.le_succ_of_le hB) e
theorem put5_kept {bx L m : Nat} {W : World} {B : Nat} {a b c d e : Value} (h1 : B + 1 < L) (h2 : B + 1 < bx) : Kept bx L m W (put5 W B a b c d e) :=
  (((((Kept.setCell (by omega) (by omega)).trans (Kept.setCell (by omega) (by omega))).trans (Kept.setCell (by omega) (by omega))).trans (Kept.setCell (by omega) (by omega))).trans (Kept.setCell (by omega) (by omega)))

/-- Which character Nth tells. -/
def nthO (s : ByteArray) (i : Int) : Option Nat := if i < 0 then none else (starts s)[i.toNat]?
/-- The four cells of a character; and of none. -/
def chC (s : ByteArray) (p : Nat) : Array Value := #[.int .i32 (rn s p), .int .i64 p, .int .i64 (wdt s p), .bool (looseB s p)]
def noC : Array Value := #[.int .i32 0, .int .i64 0, .int .i64 0, .bool false]
def nthV (s : ByteArray) (i : Int) : Value := match nthO s i with
  | some p => .tuple #[.agg (chC s p), .int .i64 0]
  | none => .tuple #[.agg noC, .int .i64 3]

theorem nthO_hit {s : ByteArray} {pre : List Nat} {x : Nat} (hpr : pre ++ [x] <+: starts s) : nthO s (pre.length : Int) = some x := by
  obtain ⟨r, hr⟩ := hpr
  unfold nthO
  rw [if_neg (by omega), Int.toNat_natCast, ← hr]
  simp
theorem nthO_miss {s : ByteArray} {i : Int} (h : ¬ (0 ≤ i ∧ i < ((starts s).length : Int))) : nthO s i = none := by
  unfold nthO
  by_cases h0 : i < 0
  · rw [if_pos h0]
  · rw [if_neg h0, List.getElem?_eq_none]
    omega

/-- What Nth hands back: what its two result variables hold. -/
theorem nth_end (W : World) (tmps : Array Value) (B : Nat) (a b c d e : Value) (h4 : tmps[4]? = some (.pointer (some ⟨B, 0, none⟩))) (h5 : tmps[5]? = some (.pointer (some ⟨B + 1, 0, none⟩)))
    (h1 : W.heap[B]? = some (.cells #[a, b, c, d] 186)) (h2 : W.heap[B + 1]? = some (.cells #[e] 34)) (R : Ending → World → Prop) (h : R (.returned (.tuple #[.agg #[a, b, c, d], e])) W) :
    LeavesInM Fence.wide 0 Tryz.prog Tryz.f127 tmps R [] .returning W := by
  have c0 : W.cell? ⟨B, 0, none⟩ = some a := cell_of h1 0
  have c1 : W.cell? ⟨B, 1, none⟩ = some b := cell_of h1 1
  have c2 : W.cell? ⟨B, 2, none⟩ = some c := cell_of h1 2
  have c3 : W.cell? ⟨B, 3, none⟩ = some d := cell_of h1 3
  have ce : W.cell? ⟨B + 1, 0, none⟩ = some e := cell_of h2 0
  refine ⟨.tuple #[.agg #[a, b, c, d], e], ?_, h⟩
  simp [results, Tryz.results127, go_sem, c0, c1, c2, c3, ce, h4, h5]

set_option maxHeartbeats 1000000 in
theorem nth_in (s : ByteArray) (hs : s.size ≤ maxLen) (i : Int) (w : World) :
    CallsIn Fence.wide 0 Tryz.prog 127 #[.string s, .int .i64 i] w fun e w' => e = .returned (nthV s i) ∧ Below w.heap.size w w' := by
  have hlen := starts_length s
  have hs' := hs
  unfold maxLen at hs'
  refine callsIn_of_wp_marks Tryz.func127 rfl trivial ?_ rfl
  simp only [Tryz.ntmps127, List.size_toArray, List.length_cons, List.length_nil, Nat.reduceAdd, Nat.reduceSub, Array.replicate_succ, Array.replicate_zero, List.push_toArray, List.append_toArray, List.nil_append, List.cons_append]
  gi_wp2_with (with_reducible (refine And.intro (wfn _) (And.intro wdep ?_)); gi_at_call 144; refine (callsIn_wide.2 (each_any s _)).mono ?_; rintro e w' ⟨rfl, rfl⟩)
  obtain ⟨W0, hW0⟩ : ∃ W0, (((((w.alloc (.cells #[.int .i64 i] 3)).alloc (.cells #[.int .i32 0, .int .i64 0, .int .i64 0, .bool false] 186)).alloc (.cells #[.int .i64 0] 34)).alloc (.cells #[.int .i64 0] 3)).alloc (.cells #[.string s] 9)) = W0 := ⟨_, rfl⟩
  have z0 : W0.heap.size = w.heap.size + 5 := by rw [← hW0]; simp
  have b0 : Below w.heap.size w W0 := by rw [← hW0]; exact (((((Below.refl _ w).alloc (by simp) _).alloc (by simp) _).alloc (by simp; omega) _).alloc (by simp; omega) _).alloc (by simp; omega) _
  have i0 : W0.heap[w.heap.size]? = some (.cells #[.int .i64 i] 3) := by rw [← hW0]; exact get_old (get_old (get_old (get_old (get_new (by simp)))))
  have r0 : W0.heap[w.heap.size + 1]? = some (.cells noC 186) := by rw [← hW0]; exact get_old (get_old (get_old (get_new (by simp))))
  have e0 : W0.heap[w.heap.size + 1 + 1]? = some (.cells #[.int .i64 0] 34) := by rw [← hW0]; exact get_old (get_old (get_new (by simp)))
  have c0 : W0.heap[w.heap.size + 1 + 1 + 1]? = some (.cells #[.int .i64 0] 3) := by rw [← hW0]; exact get_old (get_new (by simp))
  have x0 : Boxed W0 (w.heap.size + 1 + 1 + 1 + 1) 9 (.string s) := by show W0.heap[_]? = _; rw [← hW0]; exact get_new (by simp)
  rw [hW0]
  clear hW0
  refine wp_range (kb := 0) (gf := 152) (lb := #[.pointer (some ⟨w.heap.size + 1 + 1 + 1 + 1, 0, none⟩)]) rfl (enters_of Tryz.func152 (by kernel_rfl) rfl)
    (each1_seq s hs (w.heap.size + 1 + 1 + 1 + 1) _ x0) (by omega) (fun _ => rfl)
    (fun pre W => (W.heap[w.heap.size]? = some (.cells #[.int .i64 i] 3) ∧ W.heap[w.heap.size + 1]? = some (.cells noC 186) ∧ W.heap[w.heap.size + 1 + 1]? = some (.cells #[.int .i64 0] 34) ∧ W.heap[w.heap.size + 1 + 1 + 1]? = some (.cells #[.int .i64 pre.length] 3)) ∧ (Below w.heap.size w W ∧ ¬ (0 ≤ i ∧ i < (pre.length : Int))))
    (fun c pre W => (W.heap[w.heap.size + 1]? = some (.cells (chC s (pre.getLastD 0)) 186) ∧ W.heap[w.heap.size + 1 + 1]? = some (.cells #[.int .i64 0] 34)) ∧ (Below w.heap.size w W ∧ (c = .ret ∧ nthO s i = some (pre.getLastD 0))))
    (OwnFrom.and ((blk_own _ (fun _ => _) (fun _ => rfl)).from _ |>.and (((blk_own _ (fun _ => _) (fun _ => rfl)).from _).and (((blk_own _ (fun _ => _) (fun _ => rfl)).from _).and ((blk_own _ (fun pre : List Nat => .cells #[.int .i64 pre.length] 3) (fun _ => rfl)).from _)))) (OwnFrom.and (ownFrom_below (Nat.le_refl _) (by omega)) (ownFrom_pure _ (fun pre : List Nat => ¬ (0 ≤ i ∧ i < (pre.length : Int))))))
    (fun c => OwnFrom.and (((blk_own _ (fun pre : List Nat => .cells (chC s (pre.getLastD 0)) 186) (fun _ => rfl)).from _).and ((blk_own _ (fun _ => _) (fun _ => rfl)).from _)) (OwnFrom.and (ownFrom_below (Nat.le_refl _) (by omega)) (ownFrom_pure _ (fun pre : List Nat => c = .ret ∧ nthO s i = some (pre.getLastD 0)))))
    ⟨⟨i0, r0, e0, c0⟩, b0, by simp⟩
    (fun x a' W => ∃ Bx, W0.heap.size + (5 + 2) ≤ Bx ∧ W.heap[Bx]? = some (.cells (chC s x) 186) ∧ a' = { tmps := #[.string s, .int .i64 i, undef, .pointer (some ⟨w.heap.size, 0, none⟩), .pointer (some ⟨w.heap.size + 1, 0, none⟩), .pointer (some ⟨w.heap.size + 1 + 1, 0, none⟩), .pointer (some ⟨w.heap.size + 1 + 1 + 1, 0, none⟩), .pointer (some ⟨Bx, 0, none⟩), .string s, .func (.func 152) #[] #[.pointer (some ⟨w.heap.size + 1 + 1 + 1 + 1, 0, none⟩)], chV s x, undef, undef, undef, undef, undef, undef, undef], defers := [] })
    ?ax ?assign ?body ?done ?stop
  case ax =>
    rintro x a' _ X Y row ⟨Bx, h1, h2, h3⟩ hg hr
    exact ⟨Bx, h1, ((blk_own Bx (fun _ : Unit => .cells (chC s x) 186) (fun _ => rfl)).from _) () X Y row h2 hg hr, h3⟩
  case assign =>
    rintro l pre x W K ⟨⟨hi, hr, he, hc⟩, hb, hn⟩ hsz hK
    simp only [chV]
    gi_wp2
    exact hK _ _ (Kept.below ((Below.refl _ W).alloc (Nat.le_refl _) _) (by omega) (by omega)) ⟨⟨get_old hi, get_old hr, get_old he, get_old hc⟩, hb.alloc (by omega) _, hn⟩ ⟨W.heap.size, hsz, get_new rfl, rfl⟩
  case body =>
    rintro l pre x a' W ⟨⟨hi, hr, he, hc⟩, hb, hn⟩ ⟨Bx, hBx, hx, rfl⟩ hsz hpr
    have ci : W.cell? ⟨w.heap.size, 0, none⟩ = some (.int .i64 i) := cell_of hi 0
    have cc : W.cell? ⟨w.heap.size + 1 + 1 + 1, 0, none⟩ = some (.int .i64 pre.length) := cell_of hc 0
    have fc := frozen_of hc 0
    have x0 : W.cell? ⟨Bx, 0, none⟩ = some (.int .i32 (rn s x)) := cell_of hx 0
    have x1 : W.cell? ⟨Bx, 1, none⟩ = some (.int .i64 x) := cell_of hx 1
    have x2 : W.cell? ⟨Bx, 2, none⟩ = some (.int .i64 (wdt s x)) := cell_of hx 2
    have x3 : W.cell? ⟨Bx, 3, none⟩ = some (.bool (looseB s x)) := cell_of hx 3
    have f0 := frozen_of hr 0
    have f1 := frozen_of hr 1
    have f2 := frozen_of hr 2
    have f3 := frozen_of hr 3
    have r0 : W.cell? ⟨w.heap.size + 1, 0, none⟩ = some (.int .i32 0) := cell_of hr 0
    have r1 : W.cell? ⟨w.heap.size + 1, 1, none⟩ = some (.int .i64 0) := cell_of hr 1
    have r2 : W.cell? ⟨w.heap.size + 1, 2, none⟩ = some (.int .i64 0) := cell_of hr 2
    have r3 : W.cell? ⟨w.heap.size + 1, 3, none⟩ = some (.bool false) := cell_of hr 3
    have ce : W.cell? ⟨w.heap.size + 1 + 1, 0, none⟩ = some (.int .i64 0) := cell_of he 0
    have fe := frozen_of he 0
    by_cases heq : (pre.length : Int) = i
    · subst heq
      gi_wp2
      exact ⟨put5_kept (W := W) (B := w.heap.size + 1) (by omega) (by omega), ⟨by simp only [List.getLastD_concat]; exact put5_one hr, put5_two he⟩, put5_below hb (by omega), rfl, by simp only [List.getLastD_concat]; exact nthO_hit hpr⟩
    · have hpl : (pre ++ [x]).length ≤ (starts s).length := hpr.length_le
      simp only [List.length_append, List.length_cons, List.length_nil] at hpl
      have hll : (pre.length : Int) < 9223372036854775807 := by omega
      clear hpl
      have hq : ((pre.length : Int) == i) = false := beq_eq_false_iff_ne.2 heq
      gi_wp2
      refine ⟨Kept.setCell (by omega) (by omega), ⟨(set_other (by omega)).trans hi, (set_other (by omega)).trans hr, (set_other (by omega)).trans he, ?_⟩, hb.setCell (by simp; omega) _, by simp; omega⟩
      rw [set_get 0 _ hc]
      simp
  case done =>
    rintro W ⟨⟨hi, hr, he, hc⟩, hb, hn⟩ hK
    have f0 := frozen_of hr 0
    have f1 := frozen_of hr 1
    have f2 := frozen_of hr 2
    have f3 := frozen_of hr 3
    have r0 : W.cell? ⟨w.heap.size + 1, 0, none⟩ = some (.int .i32 0) := cell_of hr 0
    have r1 : W.cell? ⟨w.heap.size + 1, 1, none⟩ = some (.int .i64 0) := cell_of hr 1
    have r2 : W.cell? ⟨w.heap.size + 1, 2, none⟩ = some (.int .i64 0) := cell_of hr 2
    have r3 : W.cell? ⟨w.heap.size + 1, 3, none⟩ = some (.bool false) := cell_of hr 3
    have ce : W.cell? ⟨w.heap.size + 1 + 1, 0, none⟩ = some (.int .i64 0) := cell_of he 0
    have fe := frozen_of he 0
    gi_wp2
    have hp : ∀ k, k ≠ w.heap.size + 1 → k ≠ w.heap.size + 1 + 1 → (put5 W (w.heap.size + 1) (.int .i32 0) (.int .i64 0) (.int .i64 0) (.bool false) (.int .i64 3)).heap[k]? = W.heap[k]? := fun k h1 h2 => put5_other h1 h2
    have hK5 := (hp W0.heap.size (by omega) (by omega)).trans hK
    refine ⟨by simp, .inl ⟨_, _, rfl, run_takeDeferred hK5, ?_⟩⟩
    have h1 := put5_one (a := .int .i32 0) (b := .int .i64 0) (c := .int .i64 0) (d := .bool false) (e := .int .i64 3) hr
    have h2 := put5_two (a := .int .i32 0) (b := .int .i64 0) (c := .int .i64 0) (d := .bool false) (e := .int .i64 3) he
    have h3 := (World.putObj_heap_other (o := .deferred none) (show w.heap.size + 1 ≠ W0.heap.size by omega)).trans h1
    have h4 := (World.putObj_heap_other (o := .deferred none) (show w.heap.size + 1 + 1 ≠ W0.heap.size by omega)).trans h2
    refine nth_end _ _ (w.heap.size + 1) _ _ _ _ _ rfl rfl h3 h4 _ ⟨?_, ?_⟩
    · rw [nthV, nthO_miss hn]; rfl
    · exact (put5_below hb (by omega)).trans (belowK_b (w := w) (Nat.le_refl _) _ W0.heap.size _ _ (by omega) hK5 rfl rfl)
  case stop =>
    rintro c pre W hpr ⟨⟨hr, he⟩, hb, rfl, hO⟩ hK
    gi_wp2
    refine ⟨by simp, .inl ⟨_, _, rfl, run_takeDeferred hK, ?_⟩⟩
    have h3 := (World.putObj_heap_other (o := .deferred none) (show w.heap.size + 1 ≠ W0.heap.size by omega)).trans hr
    have h4 := (World.putObj_heap_other (o := .deferred none) (show w.heap.size + 1 + 1 ≠ W0.heap.size by omega)).trans he
    refine nth_end _ _ (w.heap.size + 1) _ _ _ _ _ rfl rfl h3 h4 _ ⟨?_, ?_⟩
    · rw [nthV, hO]; rfl
    · exact hb.trans (belowK_b (w := w) (Nat.le_refl _) _ W0.heap.size _ _ (by omega) hK rfl rfl)
theorem nth_any (s : ByteArray) (hs : s.size ≤ maxLen) (i : Int) (w : World) :
    Calls Tryz.prog 127 #[.string s, .int .i64 i] w fun e w' => e = .returned (nthV s i) ∧ Below w.heap.size w w' := callsIn_wide.1 (nth_in s hs i w)

end Go.Proofs.YtnkpohkodkjkfaaGreatDoor
namespace Go.Proofs.YtnkpohkodkjkfaaGreatDoor
open Go.RowKit Go.Shelf Go.Lib

/-- A reader: the roster's two cells, the function that takes words off. -/
def rdF (nb wb : Nat) : Value := .func (.func 47) #[] #[.pointer (some ⟨nb, 0, none⟩), .pointer (some ⟨wb, 0, none⟩)]
theorem bel3 {w w1 w2 : World} (h : Below w.heap.size w w1) (k : Below w1.heap.size w1 w2) : Below w.heap.size w w2 := h.trans (k.mono h.size)
theorem nth0 {t : ByteArray} (h : 0 < t.size) : nthV t 0 = .tuple #[.agg (chC t 0), .int .i64 0] := by
  have e : nthO t 0 = some 0 := by
    unfold nthO
    rw [if_neg (by decide)]
    obtain ⟨f, hf⟩ : ∃ f, t.size = f + 1 := ⟨t.size - 1, by omega⟩
    unfold starts
    rw [hf, startsFrom_step t f 0 h]
    rfl
  unfold nthV
  rw [e]
set_option maxHeartbeats 4000000 in
set_option maxRecDepth 100000 in
theorem tid_ok {M : Nat} {sl mp : Value} {l : List Int} {w : World} (h : Ros M w (.agg #[sl, mp]) l) (hM : M ≤ w.heap.size) (nb wb : Nat) (k ln c : Int) (t : ByteArray) (ht : t.size ≤ maxLen) (h0 : 0 < t.size) (hin : ((rn t 0 : Nat) : Int) ∈ l) : Calls Tryz.prog 102 #[.agg #[sl, mp, rdF nb wb], tkV k t ln c] w fun e w' => e = .returned (.int .i64 (l.idxOf ((rn t 0 : Nat) : Int) : Int)) ∧ Below w.heap.size w w' := by
  have hn := nth_any t ht 0
  rw [nth0 h0] at hn
  unfold chC at hn
  have hle := rn_le t 0
  have HID : Hid (∀ V, Below w.heap.size w V → Calls Tryz.prog 128 #[.agg #[sl, mp], .int .i32 ((rn t 0 : Nat) : Int)] V fun e w' => e = .returned (.tuple #[.int .i64 (l.idxOf ((rn t 0 : Nat) : Int) : Int), .int .i64 0]) ∧ Below V.heap.size V w') := fun V hV => by
    have := id_any V (h.below (hV.mono hM)) (Nat.le_trans hM hV.size) (c := ((rn t 0 : Nat) : Int)) (by omega) (by omega)
    rw [idV, if_pos hin] at this
    exact this
  clear h hin
  generalize l.idxOf ((rn t 0 : Nat) : Int) = x at *
  generalize wdt t 0 = wz at *
  generalize looseB t 0 = lz at *
  have hrf := trefuse_no 0 k ln c t
  unfold tkV at hrf ⊢
  unfold rdF
  obtain ⟨w1, hw1⟩ : ∃ w1, w.alloc (.cells #[sl, mp, .func (.func 47) #[] #[.pointer (some ⟨nb, 0, none⟩), .pointer (some ⟨wb, 0, none⟩)]] 84) = w1 := ⟨_, rfl⟩
  have hb1 : Below w.heap.size w w1 := by rw [← hw1]; exact al1t _ _
  have hr1 : w1.heap[w.heap.size]? = some (.cells #[sl, mp, .func (.func 47) #[] #[.pointer (some ⟨nb, 0, none⟩), .pointer (some ⟨wb, 0, none⟩)]] 84 (0, 0)) := by rw [← hw1]; exact new_at rfl
  obtain ⟨w2, hw2⟩ : ∃ w2, w1.alloc (.cells #[.int .i64 k, .string t, .int .i64 ln, .int .i64 c] 56) = w2 := ⟨_, rfl⟩
  have hb2 : Below w1.heap.size w1 w2 := by rw [← hw2]; exact al1t _ _
  have hr2 : w2.heap[w1.heap.size]? = some (.cells #[.int .i64 k, .string t, .int .i64 ln, .int .i64 c] 56 (0, 0)) := by rw [← hw2]; exact new_at rfl
  have hr1' := (hb2.block _ (lt_at hr1)).trans hr1
  have hb02 := bel3 hb1 hb2
  have a1 : w2.cell? ⟨w1.heap.size, 1, none⟩ = some (.string t) := (cell_at hr2 1).trans rfl
  obtain ⟨r0, hrr⟩ : ∃ r0 : Int, ((rn t 0 : Nat) : Int) = r0 := ⟨_, rfl⟩
  rw [hrr] at hn HID
  clear hrr hle h0
  go_enter Tryz.func102, Tryz.ntmps102
  go_wp2_with (first
    | (go_at_call 48; (with_reducible refine (hrf _).mono ?_); rintro e u4 ⟨rfl, hb4⟩)
    | (go_at_call 128; (with_reducible refine (HID.out _ hB2).mono ?_); rintro e u3 ⟨rfl, hb3⟩; have g2 := (hb3.block _ (lt_at f2)).trans f2; have t0 : u3.cell? ⟨w1.heap.size, 0, none⟩ = some (.int .i64 k) := (cell_at g2 0).trans rfl; have t1 : u3.cell? ⟨w1.heap.size, 1, none⟩ = some (.string t) := (cell_at g2 1).trans rfl; have t2 : u3.cell? ⟨w1.heap.size, 2, none⟩ = some (.int .i64 ln) := (cell_at g2 2).trans rfl; have t3 : u3.cell? ⟨w1.heap.size, 3, none⟩ = some (.int .i64 c) := (cell_at g2 3).trans rfl)
    | (go_at_call 127; (with_reducible refine (hn _).mono ?_); rintro e u1 ⟨rfl, hbu⟩; obtain ⟨u2, hu2⟩ : ∃ u2, u1.alloc (.cells #[.int .i32 r0, .int .i64 0, .int .i64 wz, .bool lz] 186) = u2 := ⟨_, rfl⟩; have hbv : Below u1.heap.size u1 u2 := (by rw [← hu2]; exact al1t _ _); have hB2 := bel3 (bel3 hb02 hbu) hbv; have f1 := (hbv.block _ (Nat.lt_of_lt_of_le (lt_at hr1') hbu.size)).trans ((hbu.block _ (lt_at hr1')).trans hr1'); have f2 := (hbv.block _ (Nat.lt_of_lt_of_le (lt_at hr2) hbu.size)).trans ((hbu.block _ (lt_at hr2)).trans hr2); have p0 : u2.cell? ⟨w.heap.size, 0, none⟩ = some sl := (cell_at f1 0).trans rfl; have p1 : u2.cell? ⟨w.heap.size, 1, none⟩ = some mp := (cell_at f1 1).trans rfl; have f3 : u2.heap[u1.heap.size]? = some (.cells #[.int .i32 r0, .int .i64 0, .int .i64 wz, .bool lz] 186 (0, 0)) := (by rw [← hu2]; exact new_at rfl); have p2 : u2.cell? ⟨u1.heap.size, 0, none⟩ = some (.int .i32 r0) := (cell_at f3 0).trans rfl))
  go_ret
  exact ⟨rfl, bel3 (bel3 hB2 hb3) hb4⟩
end Go.Proofs.YtnkpohkodkjkfaaGreatDoor
