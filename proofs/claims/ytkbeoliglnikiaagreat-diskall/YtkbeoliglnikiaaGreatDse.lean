/- What one step of the play turns, seen by the other disk. -/
import Derived.Test.YtkbeoliglnikiaaGreatDsd
namespace Go.Proofs.YtkbeoliglnikiaaGreat
open Go.RowKit Go.Shelf

/-- A step of the disk at lb, off on: its blocks p and r, its cells, the book of lists; nothing else turns. -/
structure Ev (base lb off p r : Nat) (W V : World) : Prop where
  os : V.os = W.os
  tape : V.tape = W.tape
  output : V.output = W.output
  size : W.heap.size ≤ V.heap.size
  block : ∀ (q : Nat) (cur : Array Value) (t : TypeId) (z : Nat × Nat), W.heap[q]? = some (.cells cur t z) → q ≠ lb → q ≠ p → q ≠ r → t ≠ 41 → t ≠ 22 → V.heap[q]? = some (.cells cur t z)
  low : ∀ k, k < base → V.heap[k]? = W.heap[k]?
  lk : ∀ cur, W.heap[lb]? = some (.cells cur 47 (0, 0)) → ∃ cur', V.heap[lb]? = some (.cells cur' 47 (0, 0)) ∧ cur'.size = cur.size ∧ ∀ j, (j < off + 1 ∨ off + 5 ≤ j) → cur'[j]? = cur[j]?
section
variable {base lb off p r : Nat} {U W V : World}
theorem Ev.trans (h : Ev base lb off p r U W) (k : Ev base lb off p r W V) : Ev base lb off p r U V := by
  refine ⟨k.os.trans h.os, k.tape.trans h.tape, k.output.trans h.output, Nat.le_trans h.size k.size, fun q cur t z hq h1 h2 h3 h4 h5 => k.block q cur t z (h.block q cur t z hq h1 h2 h3 h4 h5) h1 h2 h3 h4 h5, fun j hj => (k.low j hj).trans (h.low j hj), fun cur hc => ?_⟩
  obtain ⟨c1, a1, a2, a3⟩ := h.lk cur hc
  obtain ⟨c2, b1, b2, b3⟩ := k.lk c1 a1
  exact ⟨c2, b1, b2.trans a2, fun j hj => (b3 j hj).trans (a3 j hj)⟩
theorem Ev.of (lb off p r : Nat) (hb : Below W.heap.size W V) (hz : base ≤ W.heap.size) : Ev base lb off p r W V :=
  ⟨hb.os, hb.tape, hb.output, hb.size, fun q _ _ _ hq _ _ _ _ _ => (hb.block q (lt_at hq)).trans hq, fun k hk => hb.block k (Nat.lt_of_lt_of_le hk hz), fun cur hc => ⟨cur, (hb.block _ (lt_at hc)).trans hc, rfl, fun _ _ => rfl⟩⟩
theorem Ev.kp {σ : Sg} {bb : Nat} (hk : Kp base bb W V) (hn : NK σ base bb W) (hz : base ≤ W.heap.size) : Ev base lb off p r W V :=
  ⟨hk.os, hk.tape, hk.output, hk.size, fun _ _ _ _ hq _ _ _ h4 h5 => hk.at hn hq h4 h5, fun k hk' => by
    obtain ⟨_, _, _, _, _, _, ⟨_, _, _, _, _, _, _, hbb⟩, _⟩ := hn
    have hlt : k < W.heap.size := Nat.lt_of_lt_of_le hk' hz
    rw [hk.block k _ (Array.getElem?_eq_getElem hlt) (by omega) (.inl hk'), Array.getElem?_eq_getElem hlt], fun cur hc => ⟨cur, hk.at hn hc (by decide) (by decide), rfl, fun _ _ => rfl⟩⟩
theorem Ev.tp (h : Tp p W V) (hn : lb ≠ p) (hp : base ≤ p) (hz : base ≤ W.heap.size) : Ev base lb off p r W V :=
  ⟨h.os, h.tape, h.output, h.size, fun q _ _ _ hq _ h2 _ _ _ => (h.block q (lt_at hq) h2).trans hq, fun k hk => h.block k (by omega) (by omega), fun cur hc => ⟨cur, (h.block _ (lt_at hc) hn).trans hc, rfl, fun _ _ => rfl⟩⟩
theorem Ev.tf (h : Tf lb (off + 1) r W V) (hl : base ≤ lb) (hr : base ≤ r) (hz : base ≤ W.heap.size) : Ev base lb off p r W V :=
  ⟨h.os, h.tape, h.output, h.size, fun q _ _ _ hq h1 _ h3 _ _ => (h.block q (lt_at hq) h1 h3).trans hq, fun k hk => h.block k (by omega) (by omega) (by omega), fun cur hc => by
    obtain ⟨c1, a1, a2, a3⟩ := h.lk cur hc
    exact ⟨c1, a1, a2, fun j hj => a3 j (by omega)⟩⟩
end
section
variable {base lb off bb p r c : Nat} {d : Dst} {W V : World}
theorem Sd.ne {σ : Sg} (h : Sd σ base lb off bb p r c d W) : lb ≠ p := fun e => by
  obtain ⟨cur, hl⟩ := h.rf.lk
  rw [e] at hl
  have := hl.symm.trans h.dk.obj
  simp only [Option.some.injEq, Obj.cells.injEq] at this
  exact absurd this.2.1 (by decide)
theorem nk_tp {σ : Sg} {q : Nat} {cur : Array Value} {t : TypeId} {z : Nat × Nat} (h : NK σ base bb W) (ho : W.heap[q]? = some (.cells cur t z)) (h1 : t ≠ 41) (h2 : t ≠ 22) (h3 : t ≠ 5 ∨ σ q) (hz : W.heap.size ≤ V.heap.size) (hb : ∀ k, k < W.heap.size → k ≠ q → V.heap[k]? = W.heap[k]?) : NK σ base bb V := by
  obtain ⟨hs, k, x, y, L, G, ⟨u, v, hk, hkb, h6, h7, hap, hbb⟩, hl, hL⟩ := h
  have rows : ∀ {a : Value} {xs : List Value}, W.ownsRow base 22 1 a k xs → V.ownsRow base 22 1 a k xs := fun {a xs} hr => by
    refine ⟨hr.1, ?_⟩
    rcases hr.2 with e | ⟨g, cap, cur', e1, e2, e3, e4⟩
    · exact .inl e
    · refine .inr ⟨g, cap, cur', e1, e2, (hb g (lt_at e3) (fun e => ?_)).trans e3, e4⟩
      rw [e] at e3
      have := e3.symm.trans ho
      simp only [Option.some.injEq, Obj.cells.injEq] at this
      exact h2 this.2.1.symm
  refine ⟨fun b q => Nat.lt_of_lt_of_le (hs b q) hz, k, x, y, L, G, ⟨u, v, hk, (hb _ (lt_at hkb) (fun e => ?_)).trans hkb, rows h6, rows h7, hap, hbb⟩, hl, hL.carry (fun g cur' hsg hc => (hb g (lt_at hc) (fun e => by
    rw [e] at hc hsg
    have := hc.symm.trans ho
    simp only [Option.some.injEq, Obj.cells.injEq] at this
    rcases h3 with h3 | h3
    · exact h3 this.2.1.symm
    · exact hsg h3)).trans hc)⟩
  unfold KB at hkb
  rw [e] at hkb
  have := hkb.symm.trans ho
  simp only [Option.some.injEq, Obj.cells.injEq] at this
  exact h1 this.2.1.symm
theorem row_tp {base p n : Nat} {v : Value} {d : Dst} {xs : List Value} (h : W.ownsRow base 5 1 v n xs) (hd : Dk W p d) (ht : Tp p W V) : V.ownsRow base 5 1 v n xs := by
  refine ⟨h.1, ?_⟩
  rcases h.2 with h1 | ⟨g, cap, cur, h1, h2, h3, h4⟩
  · exact .inl h1
  · refine .inr ⟨g, cap, cur, h1, h2, (ht.block g (lt_at h3) (fun e => ?_)).trans h3, h4⟩
    subst e
    have := h3.symm.trans hd.obj
    simp only [Option.some.injEq, Obj.cells.injEq] at this
    exact absurd this.2.1 (by decide)
/-- The program's disk has turned, the document's has not yet. -/
structure Sm (σ : Sg) (base lb off bb p r c : Nat) (d d' : Dst) (W : World) : Prop where
  c0 : W.cell? ⟨lb, off, none⟩ = some (.pointer (some ⟨p, 0, none⟩))
  rf : RfD W lb (off + 1) base r c d
  c5 : W.cell? ⟨lb, off + 5, none⟩ = some (.pointer (some ⟨bb, 0, none⟩))
  dk : Dk W p d'
  nk : NK σ base bb W
  bz : base ≤ W.heap.size
  pb : base ≤ p
  lb0 : base ≤ lb
  sr : σ r
theorem Sd.tp {σ : Sg} {d' : Dst} (h : Sd σ base lb off bb p r c d W) (ht : Tp p W V) (hd : Dk V p d') : Sm σ base lb off bb p r c d d' V := by
  obtain ⟨cur, hl⟩ := h.rf.lk
  have hq := ht.block _ (lt_at hl) h.ne
  exact ⟨(World.cell?_of_block (a := ⟨lb, _, none⟩) hq).trans h.c0, h.rf.carryB (fun cur hc => (ht.block _ (lt_at hc) h.ne).trans hc) (row_tp h.rf.row h.dk ht), (World.cell?_of_block (a := ⟨lb, _, none⟩) hq).trans h.c5, hd, nk_tp h.nk h.dk.obj (by decide) (by decide) (.inl (by decide)) ht.size ht.block, Nat.le_trans h.bz ht.size, h.pb, h.lb0, h.sr⟩
theorem Sm.carry {σ : Sg} {d' : Dst} (h : Sm σ base lb off bb p r c d d' W) (hb : Below W.heap.size W V) : Sm σ base lb off bb p r c d d' V := by
  obtain ⟨cur, hl⟩ := h.rf.lk
  have hq := hb.block _ (lt_at hl)
  exact ⟨(World.cell?_of_block (a := ⟨lb, _, none⟩) hq).trans h.c0, h.rf.carryB (fun cur hc => (hb.block _ (lt_at hc)).trans hc) (row_below h.rf.row hb), (World.cell?_of_block (a := ⟨lb, _, none⟩) hq).trans h.c5, h.dk.carry hb, h.nk.carry hb, Nat.le_trans h.bz hb.size, h.pb, h.lb0, h.sr⟩
/-- The document's disk has turned, too. -/
theorem Sm.tf {σ : Sg} {d' : Dst} (h : Sm σ base lb off bb p r c d d' W) (ht : Tf lb (off + 1) r W V) (hr : RfD V lb (off + 1) base r c d') : Sd σ base lb off bb p r c d' V := by
  obtain ⟨cur, hl⟩ := h.rf.lk
  obtain ⟨cur', hl', _, hj⟩ := ht.lk cur hl
  have hpl : p ≠ lb := fun e => by
    have := h.dk.obj
    rw [e] at this
    have := this.symm.trans hl
    simp only [Option.some.injEq, Obj.cells.injEq] at this
    exact absurd this.2.1 (by decide)
  obtain ⟨_, curR, hcr⟩ := h.rf.rb
  have hpr : p ≠ r := fun e => by
    rw [← e] at hcr
    have := hcr.symm.trans h.dk.obj
    simp only [Option.some.injEq, Obj.cells.injEq] at this
    exact absurd this.2.1 (by decide)
  have c0 := h.c0
  have c5 := h.c5
  rw [cell_at hl] at c0 c5
  refine ⟨by rw [cell_at hl', hj _ (by omega)]; exact c0, hr, by rw [cell_at hl', hj _ (by omega)]; exact c5, ⟨(ht.block _ h.dk.lt hpl hpr).trans h.dk.obj, h.dk.len, h.dk.byt⟩, ?_, Nat.le_trans h.bz ht.size, h.pb, h.lb0, h.sr⟩
  obtain ⟨hs, k, x, y, L, G, ⟨u, v, hk, hkb, h6, h7, hap, hbb⟩, hl9, hL⟩ := h.nk
  have nb : ∀ (g : Nat) (cc : Array Value) (t : TypeId), W.heap[g]? = some (.cells cc t (0, 0)) → t ≠ 47 → t ≠ 5 → V.heap[g]? = some (.cells cc t (0, 0)) := fun g cc t hg t1 t2 => by
    refine (ht.block g (lt_at hg) (fun e => ?_) (fun e => ?_)).trans hg
    · rw [e] at hg
      have := hg.symm.trans hl
      simp only [Option.some.injEq, Obj.cells.injEq] at this
      exact t1 this.2.1
    · rw [e] at hg
      have := hg.symm.trans hcr
      simp only [Option.some.injEq, Obj.cells.injEq] at this
      exact t2 this.2.1
  have rows : ∀ {a : Value} {xs : List Value}, W.ownsRow base 22 1 a k xs → V.ownsRow base 22 1 a k xs := fun {a xs} hrw => by
    refine ⟨hrw.1, ?_⟩
    rcases hrw.2 with e | ⟨g, cap, cur', e1, e2, e3, e4⟩
    · exact .inl e
    · exact .inr ⟨g, cap, cur', e1, e2, nb g cur' _ e3 (by decide) (by decide), e4⟩
  exact ⟨fun b q => Nat.lt_of_lt_of_le (hs b q) ht.size, k, x, y, L, G, ⟨u, v, hk, nb _ _ _ hkb (by decide) (by decide), rows h6, rows h7, hap, hbb⟩, hl9, hL.carry (fun g cc hsg hg => by
    refine (ht.block g (lt_at hg) (fun e => ?_) (fun e => ?_)).trans hg
    · rw [e] at hg
      have := hg.symm.trans hl
      simp only [Option.some.injEq, Obj.cells.injEq] at this
      exact absurd this.2.1 (by decide)
    · rw [e] at hsg
      exact hsg h.sr)⟩
theorem Ev.below {off p r : Nat} {U : World} (h : Ev base lb off p r W V) (hb : Below base U W) : Below base U V := hb.trans ⟨h.os, h.tape, h.output, h.size, h.low⟩
/-- The other one abides. -/
theorem Sd.ev {σ : Sg} {off' p' r' c' : Nat} {d' : Dst} (h : Sd σ base lb off' bb p' r' c' d' W) (he : Ev base lb off p r W V) (hn : NK σ base bb V) (ho : off' + 6 ≤ off ∨ off + 6 ≤ off') (hp : p' ≠ p) (hr : r' ≠ r) (hpr : p' ≠ r) (hrp : r' ≠ p) : Sd σ base lb off' bb p' r' c' d' V := by
  obtain ⟨cur, hl⟩ := h.rf.lk
  obtain ⟨cur', hl', _, hj⟩ := he.lk cur hl
  have hc : ∀ j, off' ≤ j → j < off' + 6 → V.cell? ⟨lb, j, none⟩ = W.cell? ⟨lb, j, none⟩ := fun j h1 h2 => by rw [cell_at hl', cell_at hl, hj _ (by omega)]
  have hpl := h.ne
  have hrl := h.rf.ne
  obtain ⟨_, curR, hcr⟩ := h.rf.rb
  refine ⟨(hc _ (by omega) (by omega)).trans h.c0, ⟨(hc _ (by omega) (by omega)).trans h.rf.b, (hc _ (by omega) (by omega)).trans h.rf.f, (hc _ (by omega) (by omega)).trans h.rf.u, (hc _ (by omega) (by omega)).trans h.rf.n, ?_, ⟨cur', hl'⟩, h.rf.len, h.rf.byt⟩, (hc _ (by omega) (by omega)).trans h.c5, ⟨he.block _ _ _ _ h.dk.obj (Ne.symm hpl) hp hpr (by decide) (by decide), h.dk.len, h.dk.byt⟩, hn, Nat.le_trans h.bz he.size, h.pb, h.lb0, h.sr⟩
  refine ⟨h.rf.row.1, ?_⟩
  rcases h.rf.row.2 with ⟨e1, _⟩ | ⟨g, cap, cc, e1, e2, e3, e4⟩
  · cases e1
  · cases e1
    exact .inr ⟨r', c', cc, rfl, e2, he.block _ _ _ _ e3 hrl hrp hr (by decide) (by decide), e4⟩
end
end Go.Proofs.YtkbeoliglnikiaaGreat
