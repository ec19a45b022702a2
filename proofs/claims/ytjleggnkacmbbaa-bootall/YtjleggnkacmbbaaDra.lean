/- The document's disk: New, Of, Copy, Set, Read, Write: what they answer. -/
import Derived.Test.YtjleggnkacmbbaaDki
import Derived.Laws.OwnMore
namespace Go.Proofs.Ytjleggnkacmbbaa
open Go.RowKit Go.Shelf

theorem ownsRow_block {w : World} {base : Nat} {e : TypeId} {size : Nat} {v : Value} {n : Nat} {xs : List Value} (h : w.ownsRow base e size v n xs) : ∀ g, v.ownBlock = some g → base ≤ g ∧ ∃ cur, w.heap[g]? = some (.cells cur e (0, 0)) := by
  intro g hg
  rcases h.2 with ⟨rfl, _⟩ | ⟨g', cap, cur, rfl, h4, h5, _⟩
  · cases hg
  · cases hg
    exact ⟨h4, cur, h5⟩
theorem ownsRow_set {w : World} {base : Nat} {e : TypeId} {size : Nat} {v : Value} {n : Nat} {xs : List Value} {b j : Nat} (h : w.ownsRow base e size v n xs) (hb : ∀ g, v.ownBlock = some g → g ≠ b) (u : Value) : (w.setCell ⟨b, j, none⟩ u).ownsRow base e size v n xs := by
  obtain ⟨h1, h2⟩ := h
  refine ⟨h1, ?_⟩
  rcases h2 with h2 | ⟨g, cap, cur, h3, h4, h5, h6⟩
  · exact .inl h2
  · subst h3
    exact .inr ⟨g, cap, cur, rfl, h4, (Below.heap_setCell _ _ _ _ (hb g rfl)).trans h5, h6⟩
/-- The document's disk as a value. -/
def rdV (r c : Nat) (o : Bool) (f n : Int) : Value := .agg #[.slice (some ⟨r, 0, none⟩) 256 c, .bool o, .int .i64 f, .int .i64 n]
/-- The document's disk in a block, from o on. -/
structure RfD (W : World) (lb o base r c : Nat) (d : Dst) : Prop where
  b : W.cell? ⟨lb, o, none⟩ = some (.slice (some ⟨r, 0, none⟩) 256 c)
  f : W.cell? ⟨lb, o + 1, none⟩ = some (.bool d.off)
  u : W.cell? ⟨lb, o + 2, none⟩ = some (.int .i64 (left d))
  n : W.cell? ⟨lb, o + 3, none⟩ = some (.int .i64 d.writes)
  row : W.ownsRow base 5 1 (.slice (some ⟨r, 0, none⟩) 256 c) 256 (cB d.l)
  lk : ∃ cur, W.heap[lb]? = some (.cells cur 64 (0, 0))
  len : d.l.length = 256
  byt : Byt d.l
section
variable {W V : World} {lb o base r c : Nat} {d : Dst}
theorem RfD.rb (h : RfD W lb o base r c d) : base ≤ r ∧ ∃ cur, W.heap[r]? = some (.cells cur 5 (0, 0)) := ownsRow_block h.row r rfl
theorem RfD.ne (h : RfD W lb o base r c d) : r ≠ lb := fun e => by
  obtain ⟨_, cur, h2⟩ := h.rb
  obtain ⟨cur', h3⟩ := h.lk
  rw [e] at h2
  have := h2.symm.trans h3
  simp only [Option.some.injEq, Obj.cells.injEq] at this
  exact absurd this.2.1 (by decide)
theorem RfD.zaw (h : RfD W lb o base r c d) (j : Nat) : W.frozen? ⟨lb, j, none⟩ = false := by
  obtain ⟨cur, h3⟩ := h.lk
  exact thaw_at h3 j
theorem RfD.at (h : RfD W lb o base r c d) : BAt W r 0 d.l := b_own h.row h.len.symm
end
/-- What turns the document's disk alone. -/
structure Tf (lb o r : Nat) (W W' : World) : Prop where
  os : W'.os = W.os
  tape : W'.tape = W.tape
  output : W'.output = W.output
  size : W.heap.size ≤ W'.heap.size
  block : ∀ k, k < W.heap.size → k ≠ lb → k ≠ r → W'.heap[k]? = W.heap[k]?
  lk : ∀ cur, W.heap[lb]? = some (.cells cur 64 (0, 0)) → ∃ cur', W'.heap[lb]? = some (.cells cur' 64 (0, 0)) ∧ cur'.size = cur.size ∧ ∀ j, (j < o ∨ o + 4 ≤ j) → cur'[j]? = cur[j]?
theorem Tf.refl (lb o r : Nat) (W : World) : Tf lb o r W W := ⟨rfl, rfl, rfl, Nat.le_refl _, fun _ _ _ _ => rfl, fun cur h => ⟨cur, h, rfl, fun _ _ => rfl⟩⟩
theorem Tf.trans {lb o r : Nat} {W W' W'' : World} (h : Tf lb o r W W') (k : Tf lb o r W' W'') : Tf lb o r W W'' := by
  refine ⟨k.os.trans h.os, k.tape.trans h.tape, k.output.trans h.output, Nat.le_trans h.size k.size, fun j hj h1 h2 => (k.block j (Nat.lt_of_lt_of_le hj h.size) h1 h2).trans (h.block j hj h1 h2), fun cur hc => ?_⟩
  obtain ⟨c1, a1, a2, a3⟩ := h.lk cur hc
  obtain ⟨c2, b1, b2, b3⟩ := k.lk c1 a1
  exact ⟨c2, b1, b2.trans a2, fun j hj => (b3 j hj).trans (a3 j hj)⟩
theorem Tf.set (lb o r j : Nat) (W : World) (v : Value) (h1 : o ≤ j) (h2 : j < o + 4) : Tf lb o r W (W.setCell ⟨lb, j, none⟩ v) :=
  ⟨rfl, rfl, rfl, by simp [World.setCell], fun k _ hn _ => Below.heap_setCell W ⟨lb, j, none⟩ v k hn, fun cur hc => ⟨_, heap_setCell_same _ _ j _ _ v hc, by simp, fun i hi => by rw [Array.getElem?_setIfInBounds_ne (by omega)]⟩⟩
theorem Tf.put (lb o r j : Nat) (W : World) (v : Value) (hn : r ≠ lb) : Tf lb o r W (W.setCell ⟨r, j, none⟩ v) :=
  ⟨rfl, rfl, rfl, by simp [World.setCell], fun k _ _ hk => Below.heap_setCell W ⟨r, j, none⟩ v k hk, fun cur hc => ⟨cur, (Below.heap_setCell W ⟨r, j, none⟩ v lb (Ne.symm hn)).trans hc, rfl, fun _ _ => rfl⟩⟩
theorem Tf.of (lb o r : Nat) {W W' : World} (hb : Below W.heap.size W W') : Tf lb o r W W' := ⟨hb.os, hb.tape, hb.output, hb.size, fun k hk _ _ => hb.block k hk, fun cur hc => ⟨cur, (hb.block _ (lt_at hc)).trans hc, rfl, fun _ _ => rfl⟩⟩
theorem Tf.below {lb o r base : Nat} {W W' : World} (h : Tf lb o r W W') (h1 : base ≤ lb) (h2 : base ≤ r) (hb : base ≤ W.heap.size) : Below base W W' :=
  ⟨h.os, h.tape, h.output, h.size, fun k hk => h.block k (by omega) (by omega) (by omega)⟩
section
variable {W V : World} {lb o base r c : Nat} {d : Dst}
theorem RfD.set1 (h : RfD W lb o base r c d) (x : Bool) : RfD (W.setCell ⟨lb, o + 1, none⟩ (.bool x)) lb o base r c { d with off := x } := by
  obtain ⟨cur, hl⟩ := h.lk
  have hs := heap_setCell_same _ _ (o + 1) _ _ (.bool x) hl
  have hlt : o + 1 < cur.size := by
    have := h.f
    rw [cell_at hl] at this
    exact (Array.getElem?_eq_some_iff.1 this).1
  have hc : ∀ j, j ≠ o + 1 → (W.setCell ⟨lb, o + 1, none⟩ (.bool x)).cell? ⟨lb, j, none⟩ = W.cell? ⟨lb, j, none⟩ := fun j hj => by rw [cell_at hs, cell_at hl, Array.getElem?_setIfInBounds_ne (by omega)]
  exact ⟨(hc _ (by omega)).trans h.b, by rw [cell_at hs]; simp [hlt], (hc _ (by omega)).trans h.u, (hc _ (by omega)).trans h.n, ownsRow_set h.row (fun g e => by cases e; exact h.ne) _, ⟨_, hs⟩, h.len, h.byt⟩
/-- The fuse's cell is put. -/
theorem RfD.set2 (h : RfD W lb o base r c d) (d' : Dst) (hl' : d'.l = d.l) (ho : d'.off = d.off) (hw : d'.writes = d.writes) : RfD (W.setCell ⟨lb, o + 2, none⟩ (.int .i64 (left d'))) lb o base r c d' := by
  obtain ⟨cur, hl⟩ := h.lk
  have hs := heap_setCell_same _ _ (o + 2) _ _ (.int .i64 (left d')) hl
  have hlt : o + 2 < cur.size := by
    have := h.u
    rw [cell_at hl] at this
    exact (Array.getElem?_eq_some_iff.1 this).1
  have hc : ∀ j, j ≠ o + 2 → (W.setCell ⟨lb, o + 2, none⟩ (.int .i64 (left d'))).cell? ⟨lb, j, none⟩ = W.cell? ⟨lb, j, none⟩ := fun j hj => by rw [cell_at hs, cell_at hl, Array.getElem?_setIfInBounds_ne (by omega)]
  exact ⟨(hc _ (by omega)).trans h.b, by rw [ho]; exact (hc _ (by omega)).trans h.f, by rw [cell_at hs]; simp [hlt], by rw [hw]; exact (hc _ (by omega)).trans h.n, by rw [hl']; exact ownsRow_set h.row (fun g e => by cases e; exact h.ne) _, ⟨_, hs⟩, by rw [hl']; exact h.len, by rw [hl']; exact h.byt⟩
theorem RfD.set3 (h : RfD W lb o base r c d) (x : Int) : RfD (W.setCell ⟨lb, o + 3, none⟩ (.int .i64 x)) lb o base r c { d with writes := x } := by
  obtain ⟨cur, hl⟩ := h.lk
  have hs := heap_setCell_same _ _ (o + 3) _ _ (.int .i64 x) hl
  have hlt : o + 3 < cur.size := by
    have := h.n
    rw [cell_at hl] at this
    exact (Array.getElem?_eq_some_iff.1 this).1
  have hc : ∀ j, j ≠ o + 3 → (W.setCell ⟨lb, o + 3, none⟩ (.int .i64 x)).cell? ⟨lb, j, none⟩ = W.cell? ⟨lb, j, none⟩ := fun j hj => by rw [cell_at hs, cell_at hl, Array.getElem?_setIfInBounds_ne (by omega)]
  exact ⟨(hc _ (by omega)).trans h.b, (hc _ (by omega)).trans h.f, (hc _ (by omega)).trans h.u, by rw [cell_at hs]; simp [hlt], ownsRow_set h.row (fun g e => by cases e; exact h.ne) _, ⟨_, hs⟩, h.len, h.byt⟩
/-- A byte is put. -/
theorem RfD.putB (h : RfD W lb o base r c d) (j x : Nat) (hx : x < 256) : RfD (W.setCell ⟨r, j, none⟩ (.int .u8 (x : Int))) lb o base r c { d with l := d.l.set j x } := by
  obtain ⟨cur, hl⟩ := h.lk
  have hk : (W.setCell ⟨r, j, none⟩ (.int .u8 (x : Int))).heap[lb]? = W.heap[lb]? := Below.heap_setCell _ _ _ _ (Ne.symm h.ne)
  have hc : ∀ i, (W.setCell ⟨r, j, none⟩ (.int .u8 (x : Int))).cell? ⟨lb, i, none⟩ = W.cell? ⟨lb, i, none⟩ := fun i => World.cell?_of_block (a := ⟨lb, i, none⟩) hk
  refine ⟨(hc _).trans h.b, (hc _).trans h.f, (hc _).trans h.u, (hc _).trans h.n, ?_, ⟨cur, hk.trans hl⟩, by show (d.l.set j x).length = 256; rw [List.length_set]; exact h.len, ?_⟩
  · have := row_put (j := j) h.row (.int .u8 (x : Int))
    have e : (cB d.l).set j (.int .u8 (x : Int)) = cB (d.l.set j x) := by simp [cB, List.map_set]
    rw [e] at this
    exact this
  · intro z hz
    rcases List.mem_or_eq_of_mem_set hz with q | q
    · exact h.byt z q
    · rw [q]; exact hx
theorem left_fuse (d : Dst) (k : Int) : left (dFuse d k) = if 0 ≤ k then k else -1 := by
  by_cases h : 0 ≤ k
  · simp [left, dFuse, h]
  · simp only [left, dFuse, if_neg h]
    rw [decide_eq_false h]
    rfl
set_option maxHeartbeats 1000000 in
theorem rset_any (h : RfD W lb o base r c d) (k : Int) : Calls Try.prog 52 #[.pointer (some ⟨lb, o, none⟩), .int .i64 k] W fun e w' => e = .returned (.tuple #[]) ∧ RfD w' lb o base r c (dFuse d k) ∧ Tf lb o r W w' := by
  have cu := h.u
  have zu := h.zaw (o + 2)
  by_cases hk : k < 0
  · have h1 := h.set2 { d with fused := true, fuse := k } rfl rfl rfl
    have e1 : left { d with fused := true, fuse := k } = k := rfl
    rw [e1] at h1
    have cu1 := h1.u
    rw [e1] at cu1
    have zu1 := h1.zaw (o + 2)
    have h2 := h1.set2 (dFuse d k) rfl rfl rfl
    rw [left_fuse, if_neg (by omega)] at h2
    go_enter Try.func52, Try.ntmps52
    go_wp2
    go_end0
    exact ⟨rfl, h2, (Tf.set _ _ _ _ _ _ (by omega) (by omega)).trans (Tf.set _ _ _ _ _ _ (by omega) (by omega))⟩
  · have h2 := h.set2 (dFuse d k) rfl rfl rfl
    rw [left_fuse, if_pos (by omega)] at h2
    go_enter Try.func52, Try.ntmps52
    go_wp2
    go_end0
    exact ⟨rfl, h2, Tf.set _ _ _ _ _ _ (by omega) (by omega)⟩
end
end Go.Proofs.Ytjleggnkacmbbaa
