/- tagbook's All, and its function as an iterator: at every book. -/
import Derived.Test.YtddblfffjhoiaaaBkt
import Derived.Test.YtddblfffjhoiaaaSeq
import Derived.Test.YtddblfffjhoiaaaOwn
import Derived.Shelf.Abstract
import Derived.Shelf.RegionOpen
import Derived.WalkKit
import Derived.WalkSpells
import Derived.OwnWalkIn
import Derived.TacticsInMore
import Derived.LoopNIn
import Derived.LoopIn
import Derived.Lib.OthersKept
namespace Go.Proofs.Ytddblfffjhoiaaa
open Go.RowKit Go.Shelf Go.Lib
attribute [local go_sem] Oper.semAt_some

theorem wfn (k : Nat) : Fence.wide.fn k := trivial
theorem wdep : Fence.wide.depth = none := rfl
theorem blk_own {β : Type} (B : Nat) (f : β → Obj) (hc : ∀ s, (f s).isCells = true) : Own (fun s W => W.heap[B]? = some (f s)) := fun s _ _ _ hs hg hrow => (grownBy_keeps_cells hg hrow hs (hc s)).trans hs
theorem Kept.setCell {bx B m : Nat} {W : World} {B' j : Nat} {v : Value} (h1 : B' ≠ bx) (h2 : B' < B ∨ B + m ≤ B') : Kept bx B m W (W.setCell ⟨B', j, none⟩ v) :=
  ⟨by simp [World.setCell], set_other (Ne.symm h1), fun k h3 h4 => set_other (by omega)⟩
/-- The list of deferred calls is taken: nothing else turns. -/
theorem below_taken {n : Nat} {w W : World} {k : Nat} (o : Obj) (h : Below n w W) (hk : n ≤ k) : Below n w (W.putObj k o) :=
  h.trans ⟨rfl, rfl, rfl, by simp, fun j hj => World.putObj_heap_other (by omega)⟩
/-- A box that holds a slice of notices, and these. -/
structure SB (W : World) (bx gt : Nat) (l : List N3) : Prop where
  box : W.heap[bx]? = some (.cells #[.slice (some ⟨gt, 0, none⟩) l.length l.length] 22 (0, 0))
  row : W.heap[gt]? = some (.cells (fl l).toArray 32 (0, 0))
theorem row_nts {W : World} {g : Nat} {l : List N3} (h : W.heap[g]? = some (.cells (fl l).toArray 32 (0, 0))) : NtsAt W g 0 l := by
  intro k x hk
  obtain ⟨c0, c1, c2⟩ := fl_get l k x hk
  rw [Nat.zero_add]
  exact ⟨(cell_at h _).trans (by simpa using c0), (cell_at h _).trans (by simpa using c1), (cell_at h _).trans (by simpa using c2)⟩
set_option maxHeartbeats 1000000 in
set_option maxRecDepth 100000 in
theorem all1_seq (l : List N3) (bx gt : Nat) (w : World) (hl : l.length ≤ 100) (hs : SB w bx gt l) :
    SeqE Try.prog (fun _ => True) 51 #[.pointer (some ⟨bx, 0, none⟩)] (fun x : N3 => #[nt x.1 x.2.1 x.2.2]) gt 0 l w := by
  intro ll J Jx W hW hJ hJx hE hY h0
  have hb0 : W.heap[bx]? = some (.cells #[.slice (some ⟨gt, 0, none⟩) l.length l.length] 22 (0, 0)) := (hW.block _ (lt_at hs.box)).trans hs.box
  have hr0 : W.heap[gt]? = some (.cells (fl l).toArray 32 (0, 0)) := (hW.block _ (lt_at hs.row)).trans hs.row
  have c0 := cell_at hb0 0
  simp at c0
  obtain ⟨n, hn⟩ : ∃ n, l.length = n := ⟨_, rfl⟩
  have HN : Hid (l.length = n) := hn
  rw [hn] at c0 hl
  clear hn hE
  refine callsIn_of_wp Try.func51 rfl trivial ?_ rfl
  simp only [Try.ntmps51, List.size_toArray, List.length_cons, List.length_nil, Nat.reduceAdd, Nat.reduceSub, Array.replicate_succ, Array.replicate_zero, List.push_toArray, List.append_toArray, List.nil_append, List.cons_append]
  gi_wp2
  gi_loopw [7] (fun c wz => ∃ k : Nat, c = .int .i64 k ∧ k ≤ n ∧ wz.heap[gt]? = some (.cells (fl l).toArray 32 (0, 0)) ∧ J (l.take k) wz ∧ W.heap.size ≤ wz.heap.size) (fun c _ => n - vnat c)
  case atStart => exact ⟨0, rfl, Nat.zero_le _, hr0, h0, Nat.le_refl _⟩
  case round =>
    obtain ⟨k, rfl, hk, hb, hj, hsz⟩ := hrel
    by_cases hkl : k < n
    · have hki : (k : Int) < (n : Int) := by omega
      obtain ⟨⟨o, t, q⟩, hx⟩ : ∃ x, l[k]? = some x := ⟨_, List.getElem?_eq_getElem (by rw [HN.out]; exact hkl)⟩
      obtain ⟨e0, e1, e2⟩ := row_nts hb k _ hx
      rw [Nat.zero_add] at e0 e1 e2
      dsimp only at e0 e1 e2
      have HT : Hid (l.take (k + 1) = l.take k ++ [(o, t, q)]) := by
        show _ = _
        rw [List.take_add_one, hx]
        rfl
      have hj1 : J (l.take k) (wr.alloc (.cells #[.int .i64 o, .int .i64 t, .int .i64 q] 32)) := hJ.alloc _ hj
      have hyl := hY _ (o, t, q) _ hj1 (by simp; omega) (by rw [← HT.out]; exact List.take_prefix _ _)
      obtain ⟨fn, tmps, assign, body, hy, hR⟩ := hyl
      unfold nt at hy
      clear hY hx
      gi_wp2
      refine ⟨rfl, hR.mono ?_⟩
      rintro e' W3 ⟨hkp, (⟨rfl, hj3⟩ | ⟨rfl, hjx⟩)⟩
      · have hb3 : W3.heap[gt]? = some (.cells (fl l).toArray 32 (0, 0)) := hkp.box.trans (old_at hb)
        have hsz3 := hkp.size
        gi_wp2
        go_roundw
        case rel => exact ⟨k + 1, by simp, by omega, hb3, by rw [HT.out]; exact hj3, by simp at hsz3; omega⟩
        case measure => simp [vnat]; omega
      · gi_wp2
        refine bodyPost_ret (results_none rfl _ _ _) rfl ?_
        exact ⟨⟨_, rfl⟩, .inr ⟨_, by rw [← HT.out]; exact List.take_prefix _ _, hjx⟩⟩
    · have hkk : k = n := by omega
      subst hkk
      rw [List.take_of_length_le (by rw [HN.out]; exact Nat.le_refl _)] at hj
      gi_wp2
      go_end0
      exact ⟨⟨_, rfl⟩, .inl hj⟩
set_option maxHeartbeats 1000000 in
theorem ball_any {w : World} {p g : Nat} {l : List N3} (h : Bk w p g l) (h0 : 0 < l.length) (h1 : l.length ≤ 100) : Calls Try.prog 29 #[.pointer (some ⟨p, 0, none⟩)] w fun e w' => ∃ bx gt, e = .returned (.func (.func 51) #[] #[.pointer (some ⟨bx, 0, none⟩)]) ∧ w.heap.size ≤ gt ∧ w.heap.size ≤ bx ∧ SB w' bx gt l ∧ Below w.heap.size w w' := by
  have ht := twin_any h h0 h1
  go_enter Try.func29, Try.ntmps29
  go_wp2_with (first | (go_at_call 50; (with_reducible refine ht.mono ?_); rintro e u1 ⟨p2, g2, rfl, hp2, hg2, hk2, hb2⟩; have hk := kept_any hk2) | (go_at_call 34; (with_reducible refine hk.mono ?_); rintro e u2 ⟨rfl, hb3⟩))
  go_ret
  have hbb := bel2 hb2 hb3
  exact ⟨u2.heap.size, g2, rfl, hg2, hbb.size, ⟨new_at rfl, (hk2.carry hb3 |>.alloc _).row⟩, hbb.alloc hbb.size _⟩
end Go.Proofs.Ytddblfffjhoiaaa
