/- The ids of a set, as a list: arithmetic alone. -/
import Derived.Test.YtlpmehmoeladjaaGreatDoorJnJ3
import Derived.Test.YtlpmehmoeladjaaGreatDoorJnJ6
import Derived.Maps.AppendAt
import Derived.Maps.OwnIn
import Derived.OwnWalk
import Derived.RangeFuncBox
import Derived.RangeFuncNested
import Derived.Test.YtlpmehmoeladjaaGreatDoorJnJ8
import Derived.Shelf.Abstract
import Derived.Shelf.RegionOpen
import Derived.WalkKit
import Derived.WalkSpells
import Derived.OwnWalkIn
import Derived.TacticsInMore
import Derived.LoopNIn
import Derived.LoopIn
import Derived.Lib.OthersKept
namespace Go.Proofs.YtlpmehmoeladjaaGreatDoor
open Go.Lib

/-! the ids of a set, as a list -/
def idsTo (M n : Nat) : List Nat := (List.range n).filter M.testBit
theorem idsTo_succ (M n : Nat) : idsTo M (n + 1) = idsTo M n ++ (if M.testBit n then [n] else []) := by
  unfold idsTo
  rw [List.range_succ, List.filter_append]
  cases h : M.testBit n <;> simp [h]
theorem idsTo_gap (M n : Nat) : ∀ k, (∀ i, n ≤ i → i < n + k → M.testBit i = false) → idsTo M (n + k) = idsTo M n
  | 0, _ => rfl
  | k + 1, h => by
    rw [← Nat.add_assoc, idsTo_succ, h (n + k) (by omega) (by omega), idsTo_gap M n k (fun i h1 h2 => h i h1 (by omega))]
    simp
theorem idsTo_next (M n t : Nat) (hn : n ≤ t) (h : ∀ i, n ≤ i → i < t → M.testBit i = false) (ht : M.testBit t = true) : idsTo M (t + 1) = idsTo M n ++ [t] := by
  rw [idsTo_succ, ht]
  have := idsTo_gap M n (t - n) (fun i h1 h2 => h i h1 (by omega))
  rw [show n + (t - n) = t by omega] at this
  rw [this]; rfl
theorem idsTo_prefix (M : Nat) {n m : Nat} (h : n ≤ m) : idsTo M n <+: idsTo M m := by
  obtain ⟨k, rfl⟩ : ∃ k, m = n + k := ⟨m - n, by omega⟩
  induction k with
  | zero => exact List.prefix_rfl
  | succ k ih => rw [← Nat.add_assoc, idsTo_succ]; exact (ih (by omega)).trans (List.prefix_append _ _)
theorem idsTo_length (M : Nat) : ∀ n, (idsTo M n).length = popAux n M
  | 0 => rfl
  | n + 1 => by rw [idsTo_succ, List.length_append, idsTo_length M n, popAux_succ']; cases M.testBit n <;> rfl
theorem mem_idsTo {M n i : Nat} : i ∈ idsTo M n ↔ i < n ∧ M.testBit i = true := by simp [idsTo]
/-- A word of which the lowest p bits are struck. -/
def High (x y p : Nat) : Prop := ∀ i, x.testBit i = (decide (p ≤ i) && y.testBit i)
theorem testBit_ctz (x : Nat) (h0 : x ≠ 0) (h : x < 4294967296) : x.testBit (ctz 32 x) = true ∧ (∀ i, i < ctz 32 x → x.testBit i = false) ∧ ctz 32 x < 32 ∧ (x &&& (x - 1)).testBit (ctz 32 x) = false ∧ (∀ i, ctz 32 x < i → (x &&& (x - 1)).testBit i = x.testBit i) := by
  have hz : ctz 32 x = ctzFrom 32 x := by simp [ctz, h0]
  obtain ⟨m, hm, hk⟩ := ctzFrom_spec 32 x (by omega) h
  rw [← hz] at hm hk
  generalize ctz 32 x = k at *
  have h1 : x - 1 = 2 ^ k * (2 * m) + (2 ^ k - 1) := by
    have := Nat.one_le_two_pow (n := k)
    rw [hm, Nat.mul_add]; omega
  have b1 : ∀ i, x.testBit i = (decide (k ≤ i) && (2 * m + 1).testBit (i - k)) := fun i => by rw [hm, Nat.mul_comm, Nat.testBit_mul_two_pow]
  have b2 : ∀ i, k ≤ i → (x - 1).testBit i = (2 * m).testBit (i - k) := fun i hi => by
    have e : (x - 1) / 2 ^ k = 2 * m := by
      rw [h1, Nat.mul_add_div (Nat.two_pow_pos k), Nat.div_eq_of_lt (by have := Nat.two_pow_pos k; omega)]; rfl
    rw [← e, Nat.testBit_div_two_pow]
    congr 1; omega
  refine ⟨by rw [b1]; simp [Nat.testBit_zero], fun i hi => by rw [b1]; simp; omega, hk, ?_, fun i hi => ?_⟩
  · rw [Nat.testBit_and, b2 k (Nat.le_refl _)]
    simp [Nat.testBit_zero]
  · rw [Nat.testBit_and, b2 i (by omega), b1]
    obtain ⟨d, hd⟩ : ∃ d, i - k = d + 1 := ⟨i - k - 1, by omega⟩
    rw [hd, Nat.testBit_succ, Nat.testBit_succ]
    have e1 : (2 * m + 1) / 2 = m := by omega
    have e2 : (2 * m) / 2 = m := by omega
    rw [e1, e2]
    cases m.testBit d <;> simp
theorem High.next {x y p : Nat} (h : High x y p) (h0 : x ≠ 0) (hx : x < 4294967296) : p ≤ ctz 32 x ∧ y.testBit (ctz 32 x) = true ∧ (∀ i, p ≤ i → i < ctz 32 x → y.testBit i = false) ∧ High (x &&& (x - 1)) y (ctz 32 x + 1) := by
  obtain ⟨c1, c2, c3, c4, c5⟩ := testBit_ctz x h0 hx
  generalize ctz 32 x = k at *
  have a1 := h k
  rw [c1] at a1
  simp only [Bool.true_eq, Bool.and_eq_true, decide_eq_true_eq] at a1
  refine ⟨a1.1, a1.2, fun i h1 h2 => ?_, fun i => ?_⟩
  · have := h i
    rw [c2 i h2] at this
    simpa [h1] using this.symm
  · by_cases e : k + 1 ≤ i
    · rw [c5 i (by omega), h i]
      simp [show p ≤ i by omega, e]
    · simp only [e, decide_false, Bool.false_and]
      by_cases e2 : i = k
      · rw [e2]; exact c4
      · rw [Nat.testBit_and, c2 i (by omega)]; rfl
theorem and_pred_lt (x : Nat) (h : x ≠ 0) : x &&& (x - 1) < x := Nat.lt_of_le_of_lt Nat.and_le_right (by omega)
theorem idsTo_cln (N : Nat) : idsTo (cln N) 128 = idsTo N 100 := by
  have h1 : idsTo (cln N) (100 + 28) = idsTo (cln N) 100 := idsTo_gap _ _ _ (fun i h1 _ => by rw [testBit_cln]; simp; omega)
  have h2 : idsTo (cln N) 100 = idsTo N 100 := by
    unfold idsTo
    apply List.filter_congr
    intro i hi
    rw [testBit_cln]
    simp [List.mem_range.1 hi]
  exact h1.trans h2
/-- The first of a list; -1: there is none. -/
def headZ (l : List Nat) : Int := match l with | [] => -1 | x :: _ => x
def intsV (l : List Nat) : List Value := l.map fun x : Nat => .int .i64 (x : Int)
end Go.Proofs.YtlpmehmoeladjaaGreatDoor
namespace Go.Proofs.YtlpmehmoeladjaaGreatDoor
open Go.RowKit Go.Shelf Go.Lib

theorem set_get {W : World} {B : Nat} {cs : Array Value} {t : TypeId} {z : Nat × Nat} (j : Nat) (v : Value) (h : W.heap[B]? = some (.cells cs t z)) : (W.setCell ⟨B, j, none⟩ v).heap[B]? = some (.cells (cs.setIfInBounds j v) t z) := by
  simp [World.setCell, Array.getElem?_modify, h]
theorem set_other {W : World} {B B' j : Nat} {v : Value} (h : B ≠ B') : (W.setCell ⟨B', j, none⟩ v).heap[B]? = W.heap[B]? := Below.heap_setCell _ _ _ _ h
theorem cell_of {W : World} {B : Nat} {cs : Array Value} {t : TypeId} {z : Nat × Nat} (h : W.heap[B]? = some (.cells cs t z)) (j : Nat) : W.cell? ⟨B, j, none⟩ = cs[j]? := by simp [World.cell?, h]
theorem frozen_of {W : World} {B : Nat} {cs : Array Value} {t : TypeId} (h : W.heap[B]? = some (.cells cs t (0, 0))) (j : Nat) : W.frozen? ⟨B, j, none⟩ = false := by simp [World.frozen?, h]
theorem ownsRow_block {w : World} {base : Nat} {e : TypeId} {size : Nat} {v : Value} {n : Nat} {xs : List Value} (h : w.ownsRow base e size v n xs) : ∀ g, v.ownBlock = some g → base ≤ g ∧ ∃ cur, w.heap[g]? = some (.cells cur e (0, 0)) := by
  intro g hg
  rcases h.2 with ⟨rfl, _⟩ | ⟨g', cap, cur, rfl, h4, h5, _⟩
  · cases hg
  · cases hg
    exact ⟨h4, cur, h5⟩
theorem ownsRow_base {w : World} {base base' : Nat} {e : TypeId} {size : Nat} {v : Value} {n : Nat} {xs : List Value} (h : w.ownsRow base e size v n xs) (hle : base' ≤ base) : w.ownsRow base' e size v n xs := by
  obtain ⟨h1, h2⟩ := h
  refine ⟨h1, ?_⟩
  rcases h2 with h2 | ⟨g, cap, cur, h3, h4, h5⟩
  · exact .inl h2
  · exact .inr ⟨g, cap, cur, h3, Nat.le_trans hle h4, h5⟩
theorem ownsRow_putObj {w : World} {base : Nat} {e : TypeId} {size : Nat} {v : Value} {n k : Nat} {xs : List Value} {o : Obj} (h : w.ownsRow base e size v n xs) (o' : Obj) (hk : w.heap[k]? = some o) (ho : o.isCells = false) : (w.putObj k o').ownsRow base e size v n xs := by
  obtain ⟨h1, h2⟩ := h
  refine ⟨h1, ?_⟩
  rcases h2 with h2 | ⟨g, cap, cur, h3, h4, h5, h6⟩
  · exact .inl h2
  · refine .inr ⟨g, cap, cur, h3, h4, (World.putObj_heap_other (fun e => ?_)).trans h5, h6⟩
    subst e
    rw [hk] at h5
    cases h5
    cases ho
theorem ownsRow_set {w : World} {base : Nat} {e : TypeId} {size : Nat} {v : Value} {n : Nat} {xs : List Value} {b j : Nat} (h : w.ownsRow base e size v n xs) (hb : ∀ g, v.ownBlock = some g → g ≠ b) (u : Value) : (w.setCell ⟨b, j, none⟩ u).ownsRow base e size v n xs := by
  obtain ⟨h1, h2⟩ := h
  refine ⟨h1, ?_⟩
  rcases h2 with h2 | ⟨g, cap, cur, h3, h4, h5, h6⟩
  · exact .inl h2
  · subst h3
    exact .inr ⟨g, cap, cur, rfl, h4, (set_other (hb g rfl)).trans h5, h6⟩
theorem ownsRow_succ {w : World} {base : Nat} {e : TypeId} {size : Nat} {v : Value} {n : Nat} {xs : List Value} (h : w.ownsRow base e size v (n + 1) xs) : ∃ g cap, v = .slice (some ⟨g, 0, none⟩) (n + 1) cap := by
  rcases h.2 with ⟨_, h⟩ | ⟨g, cap, cur, rfl, _⟩
  · omega
  · exact ⟨g, cap, rfl⟩
/-- A variable that holds a slice that the call owns, and what is said of the slice itself: whatever is no cells may turn. -/
theorem rowBoxP_own {β : Type} (n0 B : Nat) (t e : TypeId) (size : Nat) (k : β → Nat) (xs : β → List Value) (p : Value → Prop) : Own (fun s W => ∃ v, Boxed W B t v ∧ W.ownsRow n0 e size v (k s) (xs s) ∧ p v) := by
  rintro s X Y row ⟨v, hb, ho, hp⟩ hg hr
  refine ⟨v, boxed_own B t (fun _ : Unit => v) () X Y row hb hg hr, ho.kept hg ?_, hp⟩
  cases hv : v.ownBlock with
  | none => exact .inl rfl
  | some g =>
    refine .inr (fun e' => ?_)
    obtain ⟨o, h1, h2⟩ := hr g e'.symm
    obtain ⟨_, cur, h3⟩ := ownsRow_block ho g hv
    rw [h1] at h3
    cases h3
    cases h2
theorem one_new (W : World) (a : Value) (t : TypeId) : ∀ j u, [a][j]? = some u → (W.alloc (.cells #[a] t)).cell? ((⟨W.heap.size, 0, none⟩ : Addr).add j) = some u := by
  intro j u h
  have hg : (W.alloc (.cells #[a] t)).heap[W.heap.size]? = some (.cells #[a] t) := get_new rfl
  have ha : (⟨W.heap.size, 0, none⟩ : Addr).add j = ⟨W.heap.size, j, none⟩ := by unfold Addr.add; split <;> simp_all
  rw [ha, cell_of hg j, ← h]
  simp
theorem infoInt : (Tryz.prog.info? 3).map (fun i => (i.zero, i.size, i.bytes)) = some (some (.int .i64 0), 1, 8) := by kernel_rfl
theorem ownsRow_form {w : World} {base : Nat} {e : TypeId} {size : Nat} {v : Value} {n : Nat} {xs : List Value} (h : w.ownsRow base e size v n xs) : ∃ ad cap, v = .slice ad n cap ∧ (0 < n → ∃ g, ad = some ⟨g, 0, none⟩ ∧ base ≤ g ∧ g < w.heap.size ∧ n ≤ cap ∧ ∀ j u, xs[j]? = some u → w.cell? ⟨g, j, none⟩ = some u) := by
  obtain ⟨h1, h2⟩ := h
  rcases h2 with ⟨rfl, rfl⟩ | ⟨g, cap, cur, rfl, h4, h5, h6, h7, h8, h9⟩
  · exact ⟨none, 0, rfl, fun h => absurd h (by omega)⟩
  · refine ⟨some ⟨g, 0, none⟩, cap, rfl, fun _ => ⟨g, rfl, h4, (Array.getElem?_eq_some_iff.1 h5).1, h6, fun j u hj => ?_⟩⟩
    rw [cell_of h5 j, ← hj, ← h9, List.getElem?_take]
    have hjl : j < n * size := by have := (List.getElem?_eq_some_iff.1 hj).1; omega
    rw [if_pos hjl, Array.getElem?_toList]
theorem intsV_get {l : List Nat} {j x : Nat} (h : l[j]? = some x) : (intsV l)[j]? = some (.int .i64 (x : Int)) := by simp [intsV, h]
/-- The slice v holds these numbers. -/
def RdL (w : World) (v : Value) (l : List Nat) : Prop := ∃ ad cap, v = .slice ad l.length cap ∧ ∀ j x, l[j]? = some x → ∃ g off, ad = some ⟨g, off, none⟩ ∧ g < w.heap.size ∧ l.length ≤ cap ∧ w.cell? ⟨g, off + j, none⟩ = some (.int .i64 ((x : Nat) : Int))
theorem RdL.of {w : World} {base : Nat} {v : Value} {l : List Nat} (h : w.ownsRow base 3 1 v l.length (intsV l)) : RdL w v l := by
  obtain ⟨ad, cap, rfl, hf⟩ := ownsRow_form h
  refine ⟨ad, cap, rfl, fun j x hj => ?_⟩
  obtain ⟨g, rfl, _, h2, h3, h4⟩ := hf (by have := (List.getElem?_eq_some_iff.1 hj).1; omega)
  exact ⟨g, 0, rfl, h2, h3, by rw [Nat.zero_add]; exact h4 j _ (intsV_get hj)⟩
theorem RdL.carry {w w' : World} {v : Value} {l : List Nat} (h : RdL w v l) (hb : Below w.heap.size w w') : RdL w' v l := by
  obtain ⟨ad, cap, rfl, hf⟩ := h
  refine ⟨ad, cap, rfl, fun j x hj => ?_⟩
  obtain ⟨g, off, rfl, h2, h3, h4⟩ := hf j x hj
  exact ⟨g, off, rfl, Nat.lt_of_lt_of_le h2 hb.size, h3, (hb.cell (p := ⟨g, off + j, none⟩) h2).trans h4⟩
theorem rdl_own {β : Type} (v : Value) (l : List Nat) : Own (fun (_ : β) W => RdL W v l) := by
  rintro s X Y row ⟨ad, cap, rfl, hf⟩ hg hr
  refine ⟨ad, cap, rfl, fun j x hj => ?_⟩
  obtain ⟨g, off, rfl, h2, h3, h4⟩ := hf j x hj
  exact ⟨g, off, rfl, Nat.lt_of_lt_of_le h2 hg.size, h3, cell_kept h4 hg hr⟩
end Go.Proofs.YtlpmehmoeladjaaGreatDoor
namespace Go.Proofs.YtlpmehmoeladjaaGreatDoor
open Go.RowKit Go.Shelf Go.Lib
attribute [local go_sem] Oper.semAt_some

theorem wfn (k : Nat) : Fence.wide.fn k := trivial
theorem wdep : Fence.wide.depth = none := rfl
theorem blk_own {β : Type} (B : Nat) (f : β → Obj) (hc : ∀ s, (f s).isCells = true) : Own (fun s W => W.heap[B]? = some (f s)) := fun s _ _ _ hs hg hrow => (grownBy_keeps_cells hg hrow hs (hc s)).trans hs
theorem Kept.setCell {bx B m : Nat} {W : World} {B' j : Nat} {v : Value} (h1 : B' ≠ bx) (h2 : B' < B ∨ B + m ≤ B') : Kept bx B m W (W.setCell ⟨B', j, none⟩ v) :=
  ⟨by simp [World.setCell], set_other (Ne.symm h1), fun k h3 h4 => set_other (by omega)⟩
/-- The list of deferred calls is taken: nothing else turns. -/
theorem below_taken {n : Nat} {w W : World} {k : Nat} (o : Obj) (h : Below n w W) (hk : n ≤ k) : Below n w (W.putObj k o) :=
  h.trans ⟨rfl, rfl, rfl, by simp, fun j hj => World.putObj_heap_other (by omega)⟩
/-- A box that holds a slice of notices, and these. -/
structure SB (W : World) (bx gt : Nat) (l : List N3) : Prop where
  box : W.heap[bx]? = some (.cells #[.slice (some ⟨gt, 0, none⟩) l.length l.length] 44 (0, 0))
  row : W.heap[gt]? = some (.cells (fl l).toArray 60 (0, 0))
theorem row_nts {W : World} {g : Nat} {l : List N3} (h : W.heap[g]? = some (.cells (fl l).toArray 60 (0, 0))) : NtsAt W g 0 l := by
  intro k x hk
  obtain ⟨c0, c1, c2⟩ := fl_get l k x hk
  rw [Nat.zero_add]
  exact ⟨(cell_at h _).trans (by simpa using c0), (cell_at h _).trans (by simpa using c1), (cell_at h _).trans (by simpa using c2)⟩
set_option maxHeartbeats 1000000 in
set_option maxRecDepth 100000 in
theorem all1_seq (l : List N3) (bx gt : Nat) (w : World) (hl : l.length ≤ 100) (hs : SB w bx gt l) :
    SeqE Tryz.prog (fun _ => True) 88 #[.pointer (some ⟨bx, 0, none⟩)] (fun x : N3 => #[nt x.1 x.2.1 x.2.2]) gt 0 l w := by
  intro ll J Jx W hW hJ hJx hE hY h0
  have hb0 : W.heap[bx]? = some (.cells #[.slice (some ⟨gt, 0, none⟩) l.length l.length] 44 (0, 0)) := (hW.block _ (lt_at hs.box)).trans hs.box
  have hr0 : W.heap[gt]? = some (.cells (fl l).toArray 60 (0, 0)) := (hW.block _ (lt_at hs.row)).trans hs.row
  have c0 := cell_at hb0 0
  simp at c0
  obtain ⟨n, hn⟩ : ∃ n, l.length = n := ⟨_, rfl⟩
  have HN : Hid (l.length = n) := hn
  rw [hn] at c0 hl
  clear hn hE
  refine callsIn_of_wp Tryz.func88 rfl trivial ?_ rfl
  simp only [Tryz.ntmps88, List.size_toArray, List.length_cons, List.length_nil, Nat.reduceAdd, Nat.reduceSub, Array.replicate_succ, Array.replicate_zero, List.push_toArray, List.append_toArray, List.nil_append, List.cons_append]
  gi_wp2
  gi_loopw [7] (fun c wz => ∃ k : Nat, c = .int .i64 k ∧ k ≤ n ∧ wz.heap[gt]? = some (.cells (fl l).toArray 60 (0, 0)) ∧ J (l.take k) wz ∧ W.heap.size ≤ wz.heap.size) (fun c _ => n - vnat c)
  case atStart => exact ⟨0, rfl, Nat.zero_le _, hr0, h0, Nat.le_refl _⟩
  case round =>
    obtain ⟨k, rfl, hk, hb, hj, hsz⟩ := hrel
    by_cases hkl : k < n
    · have hki : (k : Int) < (n : Int) := by omega
      obtain ⟨⟨o, t, q⟩, hx⟩ : ∃ x, l[k]? = some x := ⟨_, List.getElem?_eq_getElem (by rw [HN.out]; exact hkl)⟩
      obtain ⟨e0, e1, e2⟩ := row_nts hb k _ hx
      rw [Nat.zero_add] at e0 e1 e2
      dsimp only at e0 e1 e2
      have HT : Hid (l.take (k + 1) = l.take k ++ [(o, t, q)]) := by
        show _ = _
        rw [List.take_add_one, hx]
        rfl
      have hj1 : J (l.take k) (wr.alloc (.cells #[.int .i64 o, .int .i64 t, .int .i64 q] 60)) := hJ.alloc _ hj
      have hyl := hY _ (o, t, q) _ hj1 (by simp; omega) (by rw [← HT.out]; exact List.take_prefix _ _)
      obtain ⟨fn, tmps, assign, body, hy, hR⟩ := hyl
      unfold nt at hy
      clear hY hx
      gi_wp2
      refine ⟨rfl, hR.mono ?_⟩
      rintro e' W3 ⟨hkp, (⟨rfl, hj3⟩ | ⟨rfl, hjx⟩)⟩
      · have hb3 : W3.heap[gt]? = some (.cells (fl l).toArray 60 (0, 0)) := hkp.box.trans (old_at hb)
        have hsz3 := hkp.size
        gi_wp2
        go_roundw
        case rel => exact ⟨k + 1, by simp, by omega, hb3, by rw [HT.out]; exact hj3, by simp at hsz3; omega⟩
        case measure => simp [vnat]; omega
      · gi_wp2
        refine bodyPost_ret (results_none rfl _ _ _) rfl ?_
        exact ⟨⟨_, rfl⟩, .inr ⟨_, by rw [← HT.out]; exact List.take_prefix _ _, hjx⟩⟩
    · have hkk : k = n := by omega
      subst hkk
      rw [List.take_of_length_le (by rw [HN.out]; exact Nat.le_refl _)] at hj
      gi_wp2
      go_end0
      exact ⟨⟨_, rfl⟩, .inl hj⟩
set_option maxHeartbeats 1000000 in
theorem ball_any {w : World} {p g : Nat} {l : List N3} (h : Bk w p g l) (h0 : 0 < l.length) (h1 : l.length ≤ 100) : Calls Tryz.prog 70 #[.pointer (some ⟨p, 0, none⟩)] w fun e w' => ∃ bx gt, e = .returned (.func (.func 88) #[] #[.pointer (some ⟨bx, 0, none⟩)]) ∧ w.heap.size ≤ gt ∧ w.heap.size ≤ bx ∧ SB w' bx gt l ∧ Below w.heap.size w w' := by
  have ht := twin_any h h0 h1
  go_enter Tryz.func70, Tryz.ntmps70
  go_wp2_with (first | (go_at_call 87; (with_reducible refine ht.mono ?_); rintro e u1 ⟨p2, g2, rfl, hp2, hg2, hk2, hb2⟩; have hk := kept_any hk2) | (go_at_call 59; (with_reducible refine hk.mono ?_); rintro e u2 ⟨rfl, hb3⟩))
  go_ret
  have hbb := bel2 hb2 hb3
  exact ⟨u2.heap.size, g2, rfl, hg2, hbb.size, ⟨new_at rfl, (hk2.carry hb3 |>.alloc _).row⟩, hbb.alloc hbb.size _⟩
end Go.Proofs.YtlpmehmoeladjaaGreatDoor
