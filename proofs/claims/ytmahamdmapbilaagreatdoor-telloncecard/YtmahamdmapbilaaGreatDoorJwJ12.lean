import Derived.Test.YtmahamdmapbilaaGreatDoorJwJ7
import Derived.Test.YtmahamdmapbilaaGreatDoorJwJ9
import Derived.Maps.AppendAt
import Derived.Maps.OwnIn
import Derived.OwnWalk
import Derived.RangeFuncBox
import Derived.RangeFuncNested
import Derived.Test.YtmahamdmapbilaaGreatDoorJwJ11
import Derived.Test.YtmahamdmapbilaaGreatDoorJwJ6
import Derived.Test.YtmahamdmapbilaaGreatDoorJwJ4
import Derived.Test.YtmahamdmapbilaaGreatDoorJwJ1
import Derived.Maps.OwnSet
import Derived.Carry
import Derived.Laws.Cover4
import Derived.Deep.WholeRow
set_option maxHeartbeats 40000000
set_option maxRecDepth 100000
set_option linter.unusedVariables false
namespace Go.Proofs.YtmahamdmapbilaaGreatDoor
open Go.Lib
def idsTo (M n : Nat) : List Nat := (List.range n).filter M.testBit
theorem idsTo_succ (M n : Nat) : idsTo M (n + 1) = idsTo M n ++ (if M.testBit n then [n] else []) := by
 unfold idsTo
 rw [List.range_succ, List.filter_append]
 cases h : M.testBit n <;> simp [h]
theorem idsTo_gap (M n : Nat) : ∀ k, (∀ i, n ≤ i → i < n + k → M.testBit i = false) → idsTo M (n + k) = idsTo M n
 | 0, _ => rfl
 | k + 1, h => by
  rw [← Nat.add_assoc, idsTo_succ, h (n + k) (by omega) (by omega), idsTo_gap M n k (fun i h1 h2 => h i h1 (by omega))]
  simp
theorem idsTo_next (M n t : Nat) (hn : n ≤ t) (h : ∀ i, n ≤ i → i < t → M.testBit i = false) (ht : M.testBit t = true) : idsTo M (t + 1) = idsTo M n ++ [t] := by
 rw [idsTo_succ, ht]
 have := idsTo_gap M n (t - n) (fun i h1 h2 => h i h1 (by omega))
 rw [show n + (t - n) = t by omega] at this
 rw [this]; rfl
theorem idsTo_prefix (M : Nat) {n m : Nat} (h : n ≤ m) : idsTo M n <+: idsTo M m := by
 obtain ⟨k, rfl⟩ : ∃ k, m = n + k := ⟨m - n, by omega⟩
 induction k with
 | zero => exact List.prefix_rfl
 | succ k ih => rw [← Nat.add_assoc, idsTo_succ]; exact (ih (by omega)).trans (List.prefix_append _ _)
theorem idsTo_length (M : Nat) : ∀ n, (idsTo M n).length = popAux n M
 | 0 => rfl
 | n + 1 => by rw [idsTo_succ, List.length_append, idsTo_length M n, popAux_succ']; cases M.testBit n <;> rfl
theorem mem_idsTo {M n i : Nat} : i ∈ idsTo M n ↔ i < n ∧ M.testBit i = true := by simp [idsTo]
def High (x y p : Nat) : Prop := ∀ i, x.testBit i = (decide (p ≤ i) && y.testBit i)
theorem testBit_ctz (x : Nat) (h0 : x ≠ 0) (h : x < 4294967296) : x.testBit (ctz 32 x) = true ∧ (∀ i, i < ctz 32 x → x.testBit i = false) ∧ ctz 32 x < 32 ∧ (x &&& (x - 1)).testBit (ctz 32 x) = false ∧ (∀ i, ctz 32 x < i → (x &&& (x - 1)).testBit i = x.testBit i) := by
 have hz : ctz 32 x = ctzFrom 32 x := by simp [ctz, h0]
 obtain ⟨m, hm, hk⟩ := ctzFrom_spec 32 x (by omega) h
 rw [← hz] at hm hk
 generalize ctz 32 x = k at *
 have h1 : x - 1 = 2 ^ k * (2 * m) + (2 ^ k - 1) := by
   have := Nat.one_le_two_pow (n := k)
   rw [hm, Nat.mul_add]; omega
 have b1 : ∀ i, x.testBit i = (decide (k ≤ i) && (2 * m + 1).testBit (i - k)) := fun i => by rw [hm, Nat.mul_comm, Nat.testBit_mul_two_pow]
 have b2 : ∀ i, k ≤ i → (x - 1).testBit i = (2 * m).testBit (i - k) := fun i hi => by
   have e : (x - 1) / 2 ^ k = 2 * m := by
    rw [h1, Nat.mul_add_div (Nat.two_pow_pos k), Nat.div_eq_of_lt (by have := Nat.two_pow_pos k; omega)]; rfl
   rw [← e, Nat.testBit_div_two_pow]
   congr 1; omega
 refine ⟨by rw [b1]; simp [Nat.testBit_zero], fun i hi => by rw [b1]; simp; omega, hk, ?_, fun i hi => ?_⟩
 · rw [Nat.testBit_and, b2 k (Nat.le_refl _)]
   simp [Nat.testBit_zero]
 · rw [Nat.testBit_and, b2 i (by omega), b1]
   obtain ⟨d, hd⟩ : ∃ d, i - k = d + 1 := ⟨i - k - 1, by omega⟩
   rw [hd, Nat.testBit_succ, Nat.testBit_succ]
   have e1 : (2 * m + 1) / 2 = m := by omega
   have e2 : (2 * m) / 2 = m := by omega
   rw [e1, e2]
   cases m.testBit d <;> simp
theorem High.next {x y p : Nat} (h : High x y p) (h0 : x ≠ 0) (hx : x < 4294967296) : p ≤ ctz 32 x ∧ y.testBit (ctz 32 x) = true ∧ (∀ i, p ≤ i → i < ctz 32 x → y.testBit i = false) ∧ High (x &&& (x - 1)) y (ctz 32 x + 1) := by
 obtain ⟨c1, c2, c3, c4, c5⟩ := testBit_ctz x h0 hx
 generalize ctz 32 x = k at *
 have a1 := h k
 rw [c1] at a1
 simp only [Bool.true_eq, Bool.and_eq_true, decide_eq_true_eq] at a1
 refine ⟨a1.1, a1.2, fun i h1 h2 => ?_, fun i => ?_⟩
 · have := h i
   rw [c2 i h2] at this
   simpa [h1] using this.symm
 · by_cases e : k + 1 ≤ i
   · rw [c5 i (by omega), h i]
     simp [show p ≤ i by omega, e]
   · simp only [e, decide_false, Bool.false_and]
     by_cases e2 : i = k
     · rw [e2]; exact c4
     · rw [Nat.testBit_and, c2 i (by omega)]; rfl
theorem and_pred_lt (x : Nat) (h : x ≠ 0) : x &&& (x - 1) < x := Nat.lt_of_le_of_lt Nat.and_le_right (by omega)
end Go.Proofs.YtmahamdmapbilaaGreatDoor
namespace Go.Proofs.YtmahamdmapbilaaGreatDoor
open Go.RowKit Go.Shelf Go.Lib
theorem set_get {W : World} {B : Nat} {cs : Array Value} {t : TypeId} {z : Nat × Nat} (j : Nat) (v : Value) (h : W.heap[B]? = some (.cells cs t z)) : (W.setCell ⟨B, j, none⟩ v).heap[B]? = some (.cells (cs.setIfInBounds j v) t z) := by
 simp [World.setCell, Array.getElem?_modify, h]
theorem set_otherQ {W : World} {B B' j : Nat} {v : Value} (h : B ≠ B') : (W.setCell ⟨B', j, none⟩ v).heap[B]? = W.heap[B]? := Below.heap_setCell _ _ _ _ h
theorem cell_ofQ {W : World} {B : Nat} {cs : Array Value} {t : TypeId} {z : Nat × Nat} (h : W.heap[B]? = some (.cells cs t z)) (j : Nat) : W.cell? ⟨B, j, none⟩ = cs[j]? := by simp [World.cell?, h]
theorem frozen_of {W : World} {B : Nat} {cs : Array Value} {t : TypeId} (h : W.heap[B]? = some (.cells cs t (0, 0))) (j : Nat) : W.frozen? ⟨B, j, none⟩ = false := by simp [World.frozen?, h]
theorem ownsRow_blockQ {w : World} {base : Nat} {e : TypeId} {size : Nat} {v : Value} {n : Nat} {xs : List Value} (h : w.ownsRow base e size v n xs) : ∀ g, v.ownBlock = some g → base ≤ g ∧ ∃ cur, w.heap[g]? = some (.cells cur e (0, 0)) := by
 intro g hg
 rcases h.2 with ⟨rfl, _⟩ | ⟨g', cap, cur, rfl, h4, h5, _⟩
 · cases hg
 · cases hg
   exact ⟨h4, cur, h5⟩
theorem ownsRow_baseQ {w : World} {base base' : Nat} {e : TypeId} {size : Nat} {v : Value} {n : Nat} {xs : List Value} (h : w.ownsRow base e size v n xs) (hle : base' ≤ base) : w.ownsRow base' e size v n xs := by
 obtain ⟨h1, h2⟩ := h
 refine ⟨h1, ?_⟩
 rcases h2 with h2 | ⟨g, cap, cur, h3, h4, h5⟩
 · exact .inl h2
 · exact .inr ⟨g, cap, cur, h3, Nat.le_trans hle h4, h5⟩
theorem ownsRow_putObj {w : World} {base : Nat} {e : TypeId} {size : Nat} {v : Value} {n k : Nat} {xs : List Value} {o : Obj} (h : w.ownsRow base e size v n xs) (o' : Obj) (hk : w.heap[k]? = some o) (ho : o.isCells = false) : (w.putObj k o').ownsRow base e size v n xs := by
 obtain ⟨h1, h2⟩ := h
 refine ⟨h1, ?_⟩
 rcases h2 with h2 | ⟨g, cap, cur, h3, h4, h5, h6⟩
 · exact .inl h2
 · refine .inr ⟨g, cap, cur, h3, h4, (World.putObj_heap_other (fun e => ?_)).trans h5, h6⟩
   subst e
   rw [hk] at h5
   cases h5
   cases ho
theorem ownsRow_succ {w : World} {base : Nat} {e : TypeId} {size : Nat} {v : Value} {n : Nat} {xs : List Value} (h : w.ownsRow base e size v (n + 1) xs) : ∃ g cap, v = .slice (some ⟨g, 0, none⟩) (n + 1) cap := by
 rcases h.2 with ⟨_, h⟩ | ⟨g, cap, cur, rfl, _⟩
 · omega
 · exact ⟨g, cap, rfl⟩
theorem ownsRow_formQ {w : World} {base : Nat} {e : TypeId} {size : Nat} {v : Value} {n : Nat} {xs : List Value} (h : w.ownsRow base e size v n xs) : ∃ ad cap, v = .slice ad n cap ∧ (0 < n → ∃ g, ad = some ⟨g, 0, none⟩ ∧ base ≤ g ∧ g < w.heap.size ∧ n ≤ cap ∧ ∀ j u, xs[j]? = some u → w.cell? ⟨g, j, none⟩ = some u) := by
 obtain ⟨h1, h2⟩ := h
 rcases h2 with ⟨rfl, rfl⟩ | ⟨g, cap, cur, rfl, h4, h5, h6, h7, h8, h9⟩
 · exact ⟨none, 0, rfl, fun h => absurd h (by omega)⟩
 · refine ⟨some ⟨g, 0, none⟩, cap, rfl, fun _ => ⟨g, rfl, h4, (Array.getElem?_eq_some_iff.1 h5).1, h6, fun j u hj => ?_⟩⟩
   rw [cell_ofQ h5 j, ← hj, ← h9, List.getElem?_take]
   have hjl : j < n * size := by have := (List.getElem?_eq_some_iff.1 hj).1; omega
   rw [if_pos hjl, Array.getElem?_toList]
end Go.Proofs.YtmahamdmapbilaaGreatDoor
namespace Go.Proofs.YtmahamdmapbilaaGreatDoor
open Go.RowKit Go.Shelf
attribute [local go_sem] Oper.semAt_some
theorem Kept.setCell {bx B m : Nat} {W : World} {B' j : Nat} {v : Value} (h1 : B' ≠ bx) (h2 : B' < B ∨ B + m ≤ B') : Kept bx B m W (W.setCell ⟨B', j, none⟩ v) :=
 ⟨by simp [World.setCell], set_other (Ne.symm h1), fun k h3 h4 => set_other (by omega)⟩
def put5 (W : World) (B : Nat) (a b c d e : Value) : World := ((((W.setCell ⟨B, 0, none⟩ a).setCell ⟨B, 1, none⟩ b).setCell ⟨B, 2, none⟩ c).setCell ⟨B, 3, none⟩ d).setCell ⟨B + 1, 0, none⟩ e
theorem put5_one {W : World} {B : Nat} {a b c d e a0 b0 c0 d0 : Value} {t : TypeId} (h : W.heap[B]? = some (.cells #[a0, b0, c0, d0] t)) : (put5 W B a b c d e).heap[B]? = some (.cells #[a, b, c, d] t) :=
 (set_other (by omega)).trans (set_get 3 d (set_get 2 c (set_get 1 b (set_get 0 a h))))
theorem put5_two {W : World} {B : Nat} {a b c d e e0 : Value} {t : TypeId} (h : W.heap[B + 1]? = some (.cells #[e0] t)) : (put5 W B a b c d e).heap[B + 1]? = some (.cells #[e] t) :=
 set_get 0 e ((set_other (by omega)).trans ((set_other (by omega)).trans ((set_other (by omega)).trans ((set_other (by omega)).trans h))))
theorem put5_other {W : World} {B k : Nat} {a b c d e : Value} (h1 : k ≠ B) (h2 : k ≠ B + 1) : (put5 W B a b c d e).heap[k]? = W.heap[k]? :=
 (set_other h2).trans ((set_other h1).trans ((set_other h1).trans ((set_other h1).trans (set_other h1))))
theorem put5_below {W w : World} {B n : Nat} {a b c d e : Value} (h : Below n w W) (hB : n ≤ B) : Below n w (put5 W B a b c d e) :=
 ((((h.setCell (p := ⟨B, 0, none⟩) hB a).setCell (p := ⟨B, 1, none⟩) hB b).setCell (p := ⟨B, 2, none⟩) hB c).setCell (p := ⟨B, 3, none⟩) hB d).setCell (p := ⟨B + 1, 0, none⟩) (Nat.le_succ_of_le hB) e
theorem put5_kept {bx L m : Nat} {W : World} {B : Nat} {a b c d e : Value} (h1 : B + 1 < L) (h2 : B + 1 < bx) : Kept bx L m W (put5 W B a b c d e) :=
 (((((Kept.setCell (by omega) (by omega)).trans (Kept.setCell (by omega) (by omega))).trans (Kept.setCell (by omega) (by omega))).trans (Kept.setCell (by omega) (by omega))).trans (Kept.setCell (by omega) (by omega)))
def nthO (s : ByteArray) (i : Int) : Option Nat := if i < 0 then none else (starts s)[i.toNat]?
def chC (s : ByteArray) (p : Nat) : Array Value := #[.int .i32 (rn s p), .int .i64 p, .int .i64 (wdt s p), .bool (looseB s p)]
def noC : Array Value := #[.int .i32 0, .int .i64 0, .int .i64 0, .bool false]
def nthV (s : ByteArray) (i : Int) : Value := match nthO s i with
 | some p => .tuple #[.agg (chC s p), .int .i64 0]
 | none => .tuple #[.agg noC, .int .i64 3]
theorem nthO_hit {s : ByteArray} {pre : List Nat} {x : Nat} (hpr : pre ++ [x] <+: starts s) : nthO s (pre.length : Int) = some x := by
 obtain ⟨r, hr⟩ := hpr
 unfold nthO
 rw [if_neg (by omega), Int.toNat_natCast, ← hr]
 simp
theorem nthO_miss {s : ByteArray} {i : Int} (h : ¬ (0 ≤ i ∧ i < ((starts s).length : Int))) : nthO s i = none := by
 unfold nthO
 by_cases h0 : i < 0
 · rw [if_pos h0]
 · rw [if_neg h0, List.getElem?_eq_none]
   omega
theorem nth_end (W : World) (tmps : Array Value) (B : Nat) (a b c d e : Value) (h4 : tmps[4]? = some (.pointer (some ⟨B, 0, none⟩))) (h5 : tmps[5]? = some (.pointer (some ⟨B + 1, 0, none⟩)))
  (h1 : W.heap[B]? = some (.cells #[a, b, c, d] 197)) (h2 : W.heap[B + 1]? = some (.cells #[e] 26)) (R : Ending → World → Prop) (h : R (.returned (.tuple #[.agg #[a, b, c, d], e])) W) :
  LeavesInM Fence.wide 0 Tryz.prog Tryz.f204 tmps R [] .returning W := by
 have c0 : W.cell? ⟨B, 0, none⟩ = some a := cell_of h1 0
 have c1 : W.cell? ⟨B, 1, none⟩ = some b := cell_of h1 1
 have c2 : W.cell? ⟨B, 2, none⟩ = some c := cell_of h1 2
 have c3 : W.cell? ⟨B, 3, none⟩ = some d := cell_of h1 3
 have ce : W.cell? ⟨B + 1, 0, none⟩ = some e := cell_of h2 0
 refine ⟨.tuple #[.agg #[a, b, c, d], e], ?_, h⟩
 simp [results, Tryz.results204, go_sem, c0, c1, c2, c3, ce, h4, h5]
theorem nth_in (s : ByteArray) (hs : s.size ≤ maxLen) (i : Int) (w : World) :
  CallsIn Fence.wide 0 Tryz.prog 204 #[.string s, .int .i64 i] w fun e w' => e = .returned (nthV s i) ∧ Below w.heap.size w w' := by
 have hlen := starts_length s
 have hs' := hs
 unfold maxLen at hs'
 refine callsIn_of_wp_marks Tryz.func204 rfl trivial ?_ rfl
 simp only [Tryz.ntmps204, List.size_toArray, List.length_cons, List.length_nil, Nat.reduceAdd, Nat.reduceSub, Array.replicate_succ, Array.replicate_zero, List.push_toArray, List.append_toArray, List.nil_append, List.cons_append]
 gi_wp2_with (with_reducible (refine And.intro (wfn _) (And.intro wdep ?_)); gi_at_call 226; refine (callsIn_wide.2 (each_any s _)).mono ?_; rintro e w' ⟨rfl, rfl⟩)
 obtain ⟨W0, hW0⟩ : ∃ W0, (((((w.alloc (.cells #[.int .i64 i] 3)).alloc (.cells #[.int .i32 0, .int .i64 0, .int .i64 0, .bool false] 197)).alloc (.cells #[.int .i64 0] 26)).alloc (.cells #[.int .i64 0] 3)).alloc (.cells #[.string s] 9)) = W0 := ⟨_, rfl⟩
 have z0 : W0.heap.size = w.heap.size + 5 := by rw [← hW0]; simp
 have b0 : Below w.heap.size w W0 := by rw [← hW0]; exact (((((Below.refl _ w).alloc (by simp) _).alloc (by simp) _).alloc (by simp; omega) _).alloc (by simp; omega) _).alloc (by simp; omega) _
 have i0 : W0.heap[w.heap.size]? = some (.cells #[.int .i64 i] 3) := by rw [← hW0]; exact get_old (get_old (get_old (get_old (get_new (by simp)))))
 have r0 : W0.heap[w.heap.size + 1]? = some (.cells noC 197) := by rw [← hW0]; exact get_old (get_old (get_old (get_new (by simp))))
 have e0 : W0.heap[w.heap.size + 1 + 1]? = some (.cells #[.int .i64 0] 26) := by rw [← hW0]; exact get_old (get_old (get_new (by simp)))
 have c0 : W0.heap[w.heap.size + 1 + 1 + 1]? = some (.cells #[.int .i64 0] 3) := by rw [← hW0]; exact get_old (get_new (by simp))
 have x0 : Boxed W0 (w.heap.size + 1 + 1 + 1 + 1) 9 (.string s) := by show W0.heap[_]? = _; rw [← hW0]; exact get_new (by simp)
 rw [hW0]
 clear hW0
 refine wp_range (kb := 0) (gf := 241) (lb := #[.pointer (some ⟨w.heap.size + 1 + 1 + 1 + 1, 0, none⟩)]) rfl (enters_of Tryz.func241 (by kernel_rfl) rfl)
  (each1_seq s hs (w.heap.size + 1 + 1 + 1 + 1) _ x0) (by omega) (fun _ => rfl)
  (fun pre W => (W.heap[w.heap.size]? = some (.cells #[.int .i64 i] 3) ∧ W.heap[w.heap.size + 1]? = some (.cells noC 197) ∧ W.heap[w.heap.size + 1 + 1]? = some (.cells #[.int .i64 0] 26) ∧ W.heap[w.heap.size + 1 + 1 + 1]? = some (.cells #[.int .i64 pre.length] 3)) ∧ (Below w.heap.size w W ∧ ¬ (0 ≤ i ∧ i < (pre.length : Int))))
  (fun c pre W => (W.heap[w.heap.size + 1]? = some (.cells (chC s (pre.getLastD 0)) 197) ∧ W.heap[w.heap.size + 1 + 1]? = some (.cells #[.int .i64 0] 26)) ∧ (Below w.heap.size w W ∧ (c = .ret ∧ nthO s i = some (pre.getLastD 0))))
  (OwnFrom.and ((blk_own _ (fun _ => _) (fun _ => rfl)).from _ |>.and (((blk_own _ (fun _ => _) (fun _ => rfl)).from _).and (((blk_own _ (fun _ => _) (fun _ => rfl)).from _).and ((blk_own _ (fun pre : List Nat => .cells #[.int .i64 pre.length] 3) (fun _ => rfl)).from _)))) (OwnFrom.and (ownFrom_below (Nat.le_refl _) (by omega)) (ownFrom_pure _ (fun pre : List Nat => ¬ (0 ≤ i ∧ i < (pre.length : Int))))))
  (fun c => OwnFrom.and (((blk_own _ (fun pre : List Nat => .cells (chC s (pre.getLastD 0)) 197) (fun _ => rfl)).from _).and ((blk_own _ (fun _ => _) (fun _ => rfl)).from _)) (OwnFrom.and (ownFrom_below (Nat.le_refl _) (by omega)) (ownFrom_pure _ (fun pre : List Nat => c = .ret ∧ nthO s i = some (pre.getLastD 0)))))
  ⟨⟨i0, r0, e0, c0⟩, b0, by simp⟩
  (fun x a' W => ∃ Bx, W0.heap.size + (5 + 2) ≤ Bx ∧ W.heap[Bx]? = some (.cells (chC s x) 197) ∧ a' = { tmps := #[.string s, .int .i64 i, undef, .pointer (some ⟨w.heap.size, 0, none⟩), .pointer (some ⟨w.heap.size + 1, 0, none⟩), .pointer (some ⟨w.heap.size + 1 + 1, 0, none⟩), .pointer (some ⟨w.heap.size + 1 + 1 + 1, 0, none⟩), .pointer (some ⟨Bx, 0, none⟩), .string s, .func (.func 241) #[] #[.pointer (some ⟨w.heap.size + 1 + 1 + 1 + 1, 0, none⟩)], chV s x, undef, undef, undef, undef, undef, undef, undef], defers := [] })
  ?ax ?assign ?body ?done ?stop
 case ax =>
  rintro x a' _ X Y row ⟨Bx, h1, h2, h3⟩ hg hr
  exact ⟨Bx, h1, ((blk_own Bx (fun _ : Unit => .cells (chC s x) 197) (fun _ => rfl)).from _) () X Y row h2 hg hr, h3⟩
 case assign =>
  rintro l pre x W K ⟨⟨hi, hr, he, hc⟩, hb, hn⟩ hsz hK
  simp only [chV]
  gi_wp2
  exact hK _ _ (Kept.below ((Below.refl _ W).alloc (Nat.le_refl _) _) (by omega) (by omega)) ⟨⟨get_old hi, get_old hr, get_old he, get_old hc⟩, hb.alloc (by omega) _, hn⟩ ⟨W.heap.size, hsz, get_new rfl, rfl⟩
 case body =>
  rintro l pre x a' W ⟨⟨hi, hr, he, hc⟩, hb, hn⟩ ⟨Bx, hBx, hx, rfl⟩ hsz hpr
  have ci : W.cell? ⟨w.heap.size, 0, none⟩ = some (.int .i64 i) := cell_of hi 0
  have cc : W.cell? ⟨w.heap.size + 1 + 1 + 1, 0, none⟩ = some (.int .i64 pre.length) := cell_of hc 0
  have fc := frozen_of hc 0
  have x0 : W.cell? ⟨Bx, 0, none⟩ = some (.int .i32 (rn s x)) := cell_of hx 0
  have x1 : W.cell? ⟨Bx, 1, none⟩ = some (.int .i64 x) := cell_of hx 1
  have x2 : W.cell? ⟨Bx, 2, none⟩ = some (.int .i64 (wdt s x)) := cell_of hx 2
  have x3 : W.cell? ⟨Bx, 3, none⟩ = some (.bool (looseB s x)) := cell_of hx 3
  have f0 := frozen_of hr 0
  have f1 := frozen_of hr 1
  have f2 := frozen_of hr 2
  have f3 := frozen_of hr 3
  have r0 : W.cell? ⟨w.heap.size + 1, 0, none⟩ = some (.int .i32 0) := cell_of hr 0
  have r1 : W.cell? ⟨w.heap.size + 1, 1, none⟩ = some (.int .i64 0) := cell_of hr 1
  have r2 : W.cell? ⟨w.heap.size + 1, 2, none⟩ = some (.int .i64 0) := cell_of hr 2
  have r3 : W.cell? ⟨w.heap.size + 1, 3, none⟩ = some (.bool false) := cell_of hr 3
  have ce : W.cell? ⟨w.heap.size + 1 + 1, 0, none⟩ = some (.int .i64 0) := cell_of he 0
  have fe := frozen_of he 0
  by_cases heq : (pre.length : Int) = i
  · subst heq
    gi_wp2
    exact ⟨put5_kept (W := W) (B := w.heap.size + 1) (by omega) (by omega), ⟨by simp only [List.getLastD_concat]; exact put5_one hr, put5_two he⟩, put5_below hb (by omega), rfl, by simp only [List.getLastD_concat]; exact nthO_hit hpr⟩
  · have hpl : (pre ++ [x]).length ≤ (starts s).length := hpr.length_le
    simp only [List.length_append, List.length_cons, List.length_nil] at hpl
    have hll : (pre.length : Int) < 9223372036854775807 := by omega
    clear hpl
    have hq : ((pre.length : Int) == i) = false := beq_eq_false_iff_ne.2 heq
    gi_wp2
    refine ⟨Kept.setCell (by omega) (by omega), ⟨(set_other (by omega)).trans hi, (set_other (by omega)).trans hr, (set_other (by omega)).trans he, ?_⟩, hb.setCell (by simp; omega) _, by simp; omega⟩
    rw [set_get 0 _ hc]
    simp
 case done =>
  rintro W ⟨⟨hi, hr, he, hc⟩, hb, hn⟩ hK
  have f0 := frozen_of hr 0
  have f1 := frozen_of hr 1
  have f2 := frozen_of hr 2
  have f3 := frozen_of hr 3
  have r0 : W.cell? ⟨w.heap.size + 1, 0, none⟩ = some (.int .i32 0) := cell_of hr 0
  have r1 : W.cell? ⟨w.heap.size + 1, 1, none⟩ = some (.int .i64 0) := cell_of hr 1
  have r2 : W.cell? ⟨w.heap.size + 1, 2, none⟩ = some (.int .i64 0) := cell_of hr 2
  have r3 : W.cell? ⟨w.heap.size + 1, 3, none⟩ = some (.bool false) := cell_of hr 3
  have ce : W.cell? ⟨w.heap.size + 1 + 1, 0, none⟩ = some (.int .i64 0) := cell_of he 0
  have fe := frozen_of he 0
  gi_wp2
  have hp : ∀ k, k ≠ w.heap.size + 1 → k ≠ w.heap.size + 1 + 1 → (put5 W (w.heap.size + 1) (.int .i32 0) (.int .i64 0) (.int .i64 0) (.bool false) (.int .i64 3)).heap[k]? = W.heap[k]? := fun k h1 h2 => put5_other h1 h2
  have hK5 := (hp W0.heap.size (by omega) (by omega)).trans hK
  refine ⟨by simp, .inl ⟨_, _, rfl, run_takeDeferred hK5, ?_⟩⟩
  have h1 := put5_one (a := .int .i32 0) (b := .int .i64 0) (c := .int .i64 0) (d := .bool false) (e := .int .i64 3) hr
  have h2 := put5_two (a := .int .i32 0) (b := .int .i64 0) (c := .int .i64 0) (d := .bool false) (e := .int .i64 3) he
  have h3 := (World.putObj_heap_other (o := .deferred none) (show w.heap.size + 1 ≠ W0.heap.size by omega)).trans h1
  have h4 := (World.putObj_heap_other (o := .deferred none) (show w.heap.size + 1 + 1 ≠ W0.heap.size by omega)).trans h2
  refine nth_end _ _ (w.heap.size + 1) _ _ _ _ _ rfl rfl h3 h4 _ ⟨?_, ?_⟩
  · rw [nthV, nthO_miss hn]; rfl
  · exact (put5_below hb (by omega)).trans (belowK_b (w := w) (Nat.le_refl _) _ W0.heap.size _ _ (by omega) hK5 rfl rfl)
 case stop =>
  rintro c pre W hpr ⟨⟨hr, he⟩, hb, rfl, hO⟩ hK
  gi_wp2
  refine ⟨by simp, .inl ⟨_, _, rfl, run_takeDeferred hK, ?_⟩⟩
  have h3 := (World.putObj_heap_other (o := .deferred none) (show w.heap.size + 1 ≠ W0.heap.size by omega)).trans hr
  have h4 := (World.putObj_heap_other (o := .deferred none) (show w.heap.size + 1 + 1 ≠ W0.heap.size by omega)).trans he
  refine nth_end _ _ (w.heap.size + 1) _ _ _ _ _ rfl rfl h3 h4 _ ⟨?_, ?_⟩
  · rw [nthV, hO]; rfl
  · exact hb.trans (belowK_b (w := w) (Nat.le_refl _) _ W0.heap.size _ _ (by omega) hK rfl rfl)
theorem nth_any (s : ByteArray) (hs : s.size ≤ maxLen) (i : Int) (w : World) :
 Calls Tryz.prog 204 #[.string s, .int .i64 i] w fun e w' => e = .returned (nthV s i) ∧ Below w.heap.size w w' := callsIn_wide.1 (nth_in s hs i w)
end Go.Proofs.YtmahamdmapbilaaGreatDoor
namespace Go.Proofs.YtmahamdmapbilaaGreatDoor
open Go.Maps
def charsFrom (s : ByteArray) (f p : Nat) : List Int := (startsFrom s f p).map (fun q => (rn s q : Int))
def charsOf (s : ByteArray) : List Int := charsFrom s s.size 0
theorem charsFrom_end (s : ByteArray) (f p : Nat) (h : ¬ p < s.size) : charsFrom s f p = [] := by rw [charsFrom, startsFrom_end s f p h]; rfl
theorem charsFrom_step (s : ByteArray) (f p : Nat) (h : p < s.size) : charsFrom s (f + 1) p = (rn s p : Int) :: charsFrom s f (p + wdt s p) := by rw [charsFrom, startsFrom_step s f p h]; rfl
def rdGo : List Int → List Int → List Int × Int × Int
 | acc, [] => (acc, 0, 0)
 | acc, c :: t => if cls c = 4 then (if c ∈ acc then ([], acc.length, 42) else if acc.length < 100 then rdGo (acc ++ [c]) t else ([], acc.length, 2)) else ([], acc.length, 41)
def readR (s : ByteArray) : List Int × Int × Int := if 65536 < s.size then ([], 0, 2) else if s.size = 0 then ([], 0, 40) else rdGo [] (charsOf s)
structure Signs (l : List Int) : Prop where
 nodup : l.Nodup
 short : l.length ≤ 100
 letter : ∀ c ∈ l, cls c = 4
theorem signs_nil : Signs [] := ⟨List.nodup_nil, by simp, fun c h => by cases h⟩
theorem signs_snoc {l : List Int} (h : Signs l) {c : Int} (h1 : cls c = 4) (h2 : ¬ c ∈ l) (h3 : l.length < 100) : Signs (l ++ [c]) := by
 refine ⟨?_, by simp; omega, fun x hx => ?_⟩
 · rw [List.nodup_append]
   exact ⟨h.nodup, by simp, fun a ha b hb e => by simp at hb; subst hb; subst e; exact h2 ha⟩
 · rcases List.mem_append.1 hx with hx | hx
   · exact h.letter x hx
   · simp at hx; subst hx; exact h1
theorem rdGo_signs : ∀ (t acc : List Int), Signs acc → Signs (rdGo acc t).1
 | [], acc, h => h
 | c :: t, acc, h => by
  unfold rdGo
  by_cases h1 : cls c = 4
  · rw [if_pos h1]
    by_cases h2 : c ∈ acc
    · rw [if_pos h2]; exact signs_nil
    · rw [if_neg h2]
      by_cases h3 : acc.length < 100
      · rw [if_pos h3]; exact rdGo_signs t (acc ++ [c]) (signs_snoc h h1 h2 h3)
      · rw [if_neg h3]; exact signs_nil
  · rw [if_neg h1]; exact signs_nil
theorem readR_signs (s : ByteArray) : Signs (readR s).1 := by
 unfold readR
 split
 · exact signs_nil
 · split
   · exact signs_nil
   · exact rdGo_signs _ _ signs_nil
theorem cls_letter {c : Int} (h : cls c = 4) : 65 ≤ c ∧ c ≤ 129791 ∧ (c < 55296 ∨ 57343 < c) := by
 unfold cls at h
 repeat' split at h
 all_goals omega
structure MapOf (D : DataW Unit) (l : List Int) : Prop where
 isMap : IsMap D
 has : ∀ c : Int, Maps.has D (.int .i32 c) = decide (c ∈ l)
 at' : ∀ c ∈ l, ∀ z, D.atKey (.int .i32 c) z = .lit (.int .i64 (l.idxOf c))
theorem mapOf_nil : MapOf (.map []) [] := ⟨isMap_empty, fun c => rfl, fun c h => by cases h⟩
theorem mapOf_snoc {D : DataW Unit} {l : List Int} (h : MapOf D l) {c : Int} (hc : ¬ c ∈ l) : MapOf (D.put (.int .i32 c) (.lit (.int .i64 l.length))) (l ++ [c]) := by
 refine ⟨h.isMap.put _ _, fun x => ?_, fun x hx z => ?_⟩
 · by_cases e : x = c
   · subst e
     rw [has_put_same h.isMap (by trivial)]
     simp
   · rw [has_put_other (by simpa using e), h.has]
     simp [e]
 · by_cases e : x = c
   · subst e
     rw [atKey_put_same h.isMap (by trivial), List.idxOf_append, if_neg hc]
     simp
   · have hx2 : x ∈ l := by simpa [e] using hx
     rw [atKey_put_other (by simpa using e), h.at' x hx2, List.idxOf_append, if_pos hx2]
end Go.Proofs.YtmahamdmapbilaaGreatDoor
namespace Go.Proofs.YtmahamdmapbilaaGreatDoor
open Go.RowKit Go.Shelf Go.Lib
def RdS (M : Nat) (W : World) (v : Value) (l : List Int) : Prop := ∃ ad cap, v = .slice ad l.length cap ∧ (l ≠ [] → ∃ g, ad = some ⟨g, 0, none⟩ ∧ g < M ∧ l.length ≤ cap ∧ ∀ j x, l[j]? = some x → W.cell? ⟨g, j, none⟩ = some (.int .i32 x))
def MpS (M : Nat) (W : World) (v : Value) (l : List Int) : Prop := (v = .map none ∧ l = []) ∨ ∃ b n, ∃ D : DataW Unit, v = .map (some b) ∧ b < M ∧ W.ownsMap Tryz.prog 21 (plainElem Tryz.prog 3) b n D ∧ MapOf D l
def Ros (M : Nat) (W : World) (v : Value) (l : List Int) : Prop := Signs l ∧ ∃ sl mp, v = .agg #[sl, mp] ∧ RdS M W sl l ∧ MpS M W mp l
theorem RdS.below {M : Nat} {W W' : World} {v : Value} {l : List Int} (h : RdS M W v l) (hb : Below M W W') : RdS M W' v l := by
 obtain ⟨ad, cap, rfl, hf⟩ := h
 refine ⟨ad, cap, rfl, fun hl => ?_⟩
 obtain ⟨g, rfl, h2, h3, h4⟩ := hf hl
 exact ⟨g, rfl, h2, h3, fun j x hj => (hb.cell (p := ⟨g, j, none⟩) h2).trans (h4 j x hj)⟩
theorem MpS.below {M : Nat} {W W' : World} {v : Value} {l : List Int} (h : MpS M W v l) (hb : Below M W W') : MpS M W' v l := by
 rcases h with h | ⟨b, n, D, rfl, h2, ⟨es, clock, h3, h4⟩, h5⟩
 · exact .inl h
 · exact .inr ⟨b, n, D, rfl, h2, ⟨es, clock, (hb.block b h2).trans h3, h4⟩, h5⟩
theorem Ros.below {M : Nat} {W W' : World} {v : Value} {l : List Int} (h : Ros M W v l) (hb : Below M W W') : Ros M W' v l := by
 obtain ⟨h0, sl, mp, rfl, h1, h2⟩ := h
 exact ⟨h0, sl, mp, rfl, h1.below hb, h2.below hb⟩
theorem ros_nil (M : Nat) (W : World) : Ros M W (.agg #[.slice none 0 0, .map none]) [] := ⟨signs_nil, _, _, rfl, ⟨none, 0, rfl, fun h => absurd rfl h⟩, .inl ⟨rfl, rfl⟩⟩
theorem Ros.form {M : Nat} {W : World} {v : Value} {l : List Int} (h : Ros M W v l) : ∃ ad cap mb, v = .agg #[.slice ad l.length cap, .map mb] := by
 obtain ⟨_, sl, mp, rfl, ⟨ad, cap, rfl, _⟩, hm⟩ := h
 rcases hm with ⟨rfl, _⟩ | ⟨b, _, _, rfl, _⟩
 · exact ⟨ad, cap, none, rfl⟩
 · exact ⟨ad, cap, some b, rfl⟩
theorem Ros.alloc {M : Nat} {W : World} {v : Value} {l : List Int} (h : Ros M W v l) (hM : M ≤ W.heap.size) (o : Obj) : Ros M (W.alloc o) v l := h.below ((Below.refl M W).alloc hM o)
theorem Ros.call {M : Nat} {W W' : World} {v : Value} {l : List Int} (h : Ros M W v l) (hM : M ≤ W.heap.size) (hb : Below W.heap.size W W') : Ros M W' v l := h.below (hb.mono hM)
theorem keyR : Maps.Keyed Tryz.prog 21 := Maps.int_keyed Tryz.underlying21
theorem zeroI (w : World) : (zeroValue 3).run Tryz.prog w = .ok (.int .i64 0) w := by kernel_rfl
theorem wf_i32 {c : Int} (h0 : -2147483648 ≤ c) (h1 : c ≤ 2147483647) : (Lit.int .i32 c).wf = true := by
 simp [Lit.wf, IntKind.min, IntKind.max, IntKind.signed, IntKind.bits]
 omega
def idOf (l : List Int) (c : Int) : Int := if c ∈ l then (l.idxOf c : Int) else 0
theorem look_any {M : Nat} {W : World} {v : Value} {l : List Int} (h : MpS M W v l) {c : Int} (h0 : -2147483648 ≤ c) (h1 : c ≤ 2147483647) :
   (Instr.lookup 23 v (.int .i32 c) true).run Tryz.prog W = .ok (.tuple #[.int .i64 (idOf l c), .bool (decide (c ∈ l))]) W := by
 have hk := Maps.keyOf_int_mk (P := Tryz.prog) Tryz.underlying21 (wf_i32 h0 h1)
 rcases h with ⟨rfl, rfl⟩ | ⟨b, n, D, rfl, _, h2, h3⟩
 · rw [Maps.look_nil true keyR Tryz.underlying23 (zeroI W) hk]
   simp [idOf]
 · obtain ⟨v, ps, hr, hv⟩ := h2.look_ok keyR Tryz.underlying23 (zeroI W) (plainElem_int Tryz.underlying3 (by decide)) hk
   rw [hr, h3.has]
   obtain ⟨x, rfl, hx, _⟩ := plainElem_int_inv Tryz.underlying3 hv
   have hx' := congrArg Prod.fst hx
   dsimp only at hx'
   by_cases hc : c ∈ l
   · rw [h3.at' c hc] at hx'
     simp at hx'
     rw [idOf, if_pos hc, hx']
   · rw [Maps.atKey_of_not_has (by rw [h3.has]; simp [hc])] at hx'
     simp at hx'
     rw [idOf, if_neg hc, hx']
theorem sizeP_any (ad : Option Addr) (n cap : Nat) (mp : Value) (w : World) : Calls Tryz.prog 20 #[.agg #[.slice ad n cap, mp]] w fun e w' => e = .returned (.int .i64 n) ∧ Below w.heap.size w w' := by
 go_enter Tryz.func20, Tryz.ntmps20
 go_wp2
 go_ret
 exact ⟨rfl, (Below.refl _ w).alloc (Nat.le_refl _) _⟩
theorem size_any {M : Nat} {v : Value} {l : List Int} (w : World) (h : Ros M w v l) : Calls Tryz.prog 20 #[v] w fun e w' => e = .returned (.int .i64 l.length) ∧ Below w.heap.size w w' := by
 obtain ⟨_, sl, mp, rfl, ⟨ad, cap, rfl, _⟩, _⟩ := h
 exact sizeP_any ad _ cap mp w
def idV (l : List Int) (c : Int) : Value := if c ∈ l then .tuple #[.int .i64 (l.idxOf c : Int), .int .i64 0] else .tuple #[.int .i64 0, .int .i64 41]
theorem id_any {M : Nat} {v : Value} {l : List Int} (w : World) (h : Ros M w v l) (hM : M ≤ w.heap.size) {c : Int} (h0 : -2147483648 ≤ c) (h1 : c ≤ 2147483647) : Calls Tryz.prog 205 #[v, .int .i32 c] w fun e w' => e = .returned (idV l c) ∧ Below w.heap.size w w' := by
 obtain ⟨_, sl, mp, rfl, _, h2⟩ := h
 have hlk := look_any (h2.below (((Below.refl _ w).alloc (Nat.le_refl _) (.cells #[sl, mp] 25)).mono hM)) h0 h1
 by_cases hc : c ∈ l
 · have e1 : idV l c = .tuple #[.int .i64 (idOf l c), .int .i64 0] := by rw [idV, if_pos hc, idOf, if_pos hc]
   rw [e1, decide_eq_true hc] at *
   generalize idOf l c = x at *
   clear hc h2
   go_enter Tryz.func205, Tryz.ntmps205
   go_wp2
   go_ret2
   exact ⟨rfl, (Below.refl _ w).alloc (Nat.le_refl _) _⟩
 · have e1 : idV l c = .tuple #[.int .i64 0, .int .i64 41] := by rw [idV, if_neg hc]
   rw [e1, decide_eq_false hc] at *
   generalize idOf l c = x at *
   clear hc h2
   go_enter Tryz.func205, Tryz.ntmps205
   go_wp2
   go_ret2
   exact ⟨rfl, (Below.refl _ w).alloc (Nat.le_refl _) _⟩
def szE (s : ByteArray) : Int := if 65536 < s.size then 2 else if s.size = 0 then 40 else 0
theorem sizeError_any (s : ByteArray) (hs : s.size ≤ maxLen) (w : World) : Calls Tryz.prog 18 #[.string s] w fun e w' => e = .returned (.int .i64 (szE s)) ∧ w' = w := by
 unfold maxLen at hs
 by_cases h1 : 65536 < s.size
 · have e : szE s = 2 := by rw [szE, if_pos h1]
   rw [e]
   go_enter Tryz.func18, Tryz.ntmps18
   go_wp2
   go_ret
   exact ⟨rfl, rfl⟩
 · by_cases h2 : s.size = 0
   · have e : szE s = 40 := by rw [szE, if_neg h1, if_pos h2]
     have hs : s = ⟨#[]⟩ := ByteArray.ext (Array.eq_empty_of_size_eq_zero h2)
     rw [e]
     subst hs
     go_enter Tryz.func18, Tryz.ntmps18
     go_wp2
     go_ret
     exact ⟨rfl, rfl⟩
   · have e : szE s = 0 := by rw [szE, if_neg h1, if_neg h2]
     have hne : s.toList.isEmpty = false := by
      rw [Lib.toList_data]
      cases hd : s.data.toList with
      | nil => exact absurd (by rw [Lib.size_eq, hd]; rfl) h2
      | cons a b => rfl
     rw [e]
     go_enter Tryz.func18, Tryz.ntmps18
     go_wp2
     go_ret
     exact ⟨rfl, rfl⟩
def nwE (l : List Int) (c : Int) : Int := if cls c = 4 then (if c ∈ l then 42 else if l.length < 100 then 0 else 2) else 41
def RosP (M : Nat) (W : World) (v : Value) (l : List Int) : Prop := ∃ ad cap mp, v = .agg #[.slice ad l.length cap, mp] ∧ MpS M W mp l
theorem newSign_any {M : Nat} {v : Value} {l : List Int} (w : World) (hl : l.length ≤ 100) (h : RosP M w v l) (hM : M ≤ w.heap.size) {c : Int} (h0 : -2147483648 ≤ c) (h1 : c ≤ 2147483647) : Calls Tryz.prog 19 #[v, .int .i32 c] w fun e w' => e = .returned (.int .i64 (nwE l c)) ∧ Below w.heap.size w w' := by
 obtain ⟨ad, cap, mp, rfl, h2⟩ := h
 have hlk := look_any (h2.below (((Below.refl _ w).alloc (Nat.le_refl _) (.cells #[.slice ad l.length cap, mp] 25)).mono hM)) h0 h1
 have hcl := class_any c
 by_cases hc : cls c = 4
 · rw [hc] at hcl
   by_cases hm : c ∈ l
   · have e1 : nwE l c = 42 := by rw [nwE, if_pos hc, if_pos hm]
     rw [e1]
     rw [decide_eq_true hm] at hlk
     generalize idOf l c = x at *
     clear hm h2
     go_enter Tryz.func19, Tryz.ntmps19
     go_wp2_with (go_at_call 92; refine (hcl _).mono ?_; rintro e w1 ⟨rfl, rfl⟩)
     go_ret
     exact ⟨rfl, (Below.refl _ w).alloc (Nat.le_refl _) _⟩
   · by_cases hn : l.length < 100
     · have e1 : nwE l c = 0 := by rw [nwE, if_pos hc, if_neg hm, if_pos hn]
       rw [e1]
       rw [decide_eq_false hm] at hlk
       generalize idOf l c = x at *
       clear hm h2
       go_enter Tryz.func19, Tryz.ntmps19
       go_wp2_with (first | (go_at_call 92; refine (hcl _).mono ?_; rintro e w1 ⟨rfl, rfl⟩) | (go_at_call 20; refine (sizeP_any ad l.length cap mp _).mono ?_; rintro e w2 ⟨rfl, hb2⟩))
       go_ret
       exact ⟨rfl, ((Below.refl _ w).alloc (Nat.le_refl _) _).trans (hb2.mono (by simp))⟩
     · have e1 : nwE l c = 2 := by rw [nwE, if_pos hc, if_neg hm, if_neg hn]
       rw [e1]
       rw [decide_eq_false hm] at hlk
       generalize idOf l c = x at *
       clear hm h2
       go_enter Tryz.func19, Tryz.ntmps19
       go_wp2_with (first | (go_at_call 92; refine (hcl _).mono ?_; rintro e w1 ⟨rfl, rfl⟩) | (go_at_call 20; refine (sizeP_any ad l.length cap mp _).mono ?_; rintro e w2 ⟨rfl, hb2⟩))
       go_ret
       exact ⟨rfl, ((Below.refl _ w).alloc (Nat.le_refl _) _).trans (hb2.mono (by simp))⟩
 · have e1 : nwE l c = 41 := by rw [nwE, if_neg hc]
   have hne : (cls c == 4) = false := beq_eq_false_iff_ne.2 hc
   rw [e1]
   generalize cls c = y at *
   go_enter Tryz.func19, Tryz.ntmps19
   go_wp2_with (go_at_call 92; refine (hcl _).mono ?_; rintro e w1 ⟨rfl, rfl⟩)
   go_ret
   exact ⟨rfl, (Below.refl _ w).alloc (Nat.le_refl _) _⟩
end Go.Proofs.YtmahamdmapbilaaGreatDoor
