/- What a step of one of the two bags turns, seen by the other; between the program's call and the document's. -/
import Derived.Test.YtjfbnikbmadgkaaGreatBhf
namespace Go.Proofs.YtjfbnikbmadgkaaGreat
open Go.RowKit Go.Shelf Go.Lib

theorem GmAt.moveS {σ τ : Nat → Prop} {W V : World} {q : Nat} {x : Gr} (h : GmAt σ W q x) (e : ∀ (b : Nat) (cur : Array Value) (t : TypeId), W.heap[b]? = some (.cells cur t (0, 0)) → (t = 62 ∨ t = 5) → ¬ σ b → V.heap[b]? = some (.cells cur t (0, 0))) (hτ : ∀ b, τ b → σ b ∨ W.heap.size ≤ b) : GmAt τ V q x := by
  obtain ⟨ad, c, h, n1, n2⟩ := h
  refine ⟨ad, c, ⟨e q _ _ h.obj (.inl rfl) n1, fun hx => ?_, h.byt, h.few⟩, fun hq => ?_, fun hx a ha hq => ?_⟩
  · obtain ⟨b, off, e1, ⟨cur, e2⟩, e3⟩ := h.dat hx
    have e4 := e b cur _ e2 (.inr rfl) (n2 hx _ e1)
    exact ⟨b, off, e1, ⟨cur, e4⟩, e3.carry (e4.trans e2.symm)⟩
  · rcases hτ q hq with k | k
    · exact n1 k
    · have := lt_at h.obj
      omega
  · obtain ⟨b, off, e1, ⟨cur, e2⟩, e3⟩ := h.dat hx
    rcases hτ _ hq with k | k
    · exact n2 hx a ha k
    · rw [ha] at e1
      cases e1
      have := lt_at e2
      dsimp only at k
      omega
theorem Bg.moveS {σ τ : Nat → Prop} {W V : World} {base p : Nat} {ad : Option Addr} {cap : Nat} {room last : Int} {ps : List Nat} {l : List Gr} (h : Bg σ W base p ad cap room last ps l) (hp : V.heap[p]? = W.heap[p]?) (hl : ∀ b, ob ad = some b → V.heap[b]? = W.heap[b]?) (hg : ∀ (b : Nat) (cur : Array Value) (t : TypeId), W.heap[b]? = some (.cells cur t (0, 0)) → (t = 62 ∨ t = 5) → ¬ σ b → V.heap[b]? = some (.cells cur t (0, 0))) (hτ : ∀ b, τ b → σ b ∨ W.heap.size ≤ b) (hs : ∀ b, τ b → b < V.heap.size) : Bg τ V base p ad cap room last ps l :=
  ⟨h.pb, hp.trans h.obj, row_at h.row (fun g cur e hc => (hl g (by rw [ob_eq] at e; exact e)).trans hc), h.len, fun k q x h1 h2 => (h.gr k q x h1 h2).moveS hg hτ, h.le, h.most, hs⟩
/-- What a step turns: the bag p with its list g, the document's three cells from o on with its row r, the book of lists. -/
structure Ev (base lb o p : Nat) (g g' r r' : Option Nat) (W V : World) : Prop where
  os : V.os = W.os
  tape : V.tape = W.tape
  output : V.output = W.output
  size : W.heap.size ≤ V.heap.size
  block : ∀ (q : Nat) (cur : Array Value) (t : TypeId) (z : Nat × Nat), W.heap[q]? = some (.cells cur t z) → q ≠ lb → (t = 54 → q ≠ p) → (t = 104 → some q ≠ g) → (t = 62 → some q ≠ r) → t ≠ 41 → t ≠ 55 → t ≠ 43 → V.heap[q]? = some (.cells cur t z)
  low : ∀ k, k < base → V.heap[k]? = W.heap[k]?
  cell : ∀ j, (j < o ∨ o + 3 ≤ j) → V.cell? ⟨lb, j, none⟩ = W.cell? ⟨lb, j, none⟩
  typ : (∃ cur, W.heap[lb]? = some (.cells cur 48 (0, 0))) → ∃ cur, V.heap[lb]? = some (.cells cur 48 (0, 0))
  own : g' = g ∨ ∀ b, g' = some b → W.heap.size ≤ b
  ownr : r' = r ∨ ∀ b, r' = some b → W.heap.size ≤ b
section
variable {base lb o p : Nat} {g g' g'' r r' r'' : Option Nat} {U W V : World}
theorem Ev.trans (h : Ev base lb o p g g' r r' U W) (k : Ev base lb o p g' g'' r' r'' W V) : Ev base lb o p g g'' r r'' U V := by
  refine ⟨k.os.trans h.os, k.tape.trans h.tape, k.output.trans h.output, Nat.le_trans h.size k.size, fun q c t z hq h1 h2 h3 h4 h5 h6 h7 => k.block q c t z (h.block q c t z hq h1 h2 h3 h4 h5 h6 h7) h1 h2 (fun e e2 => ?_) (fun e e2 => ?_) h5 h6 h7, fun j hj => (k.low j hj).trans (h.low j hj), fun j hj => (k.cell j hj).trans (h.cell j hj), fun hc => k.typ (h.typ hc), ?_, ?_⟩
  · rcases h.own with q1 | q1
    · exact h3 e (e2.trans q1)
    · have := q1 q e2.symm
      have := lt_at hq
      omega
  · rcases h.ownr with q1 | q1
    · exact h4 e (e2.trans q1)
    · have := q1 q e2.symm
      have := lt_at hq
      omega
  · rcases k.own with q1 | q1
    · rw [q1]
      exact h.own
    · exact .inr fun b e => Nat.le_trans h.size (q1 b e)
  · rcases k.ownr with q1 | q1
    · rw [q1]
      exact h.ownr
    · exact .inr fun b e => Nat.le_trans h.size (q1 b e)
theorem Ev.of (hb : Below W.heap.size W V) (hz : base ≤ W.heap.size) (hl : lb < W.heap.size) : Ev base lb o p g g r r W V :=
  ⟨hb.os, hb.tape, hb.output, hb.size, fun q _ _ _ hq _ _ _ _ _ _ _ => (hb.block q (lt_at hq)).trans hq, fun k hk => hb.block k (Nat.lt_of_lt_of_le hk hz), fun j _ => World.cell?_of_block (a := ⟨lb, j, none⟩) (hb.block lb hl), fun ⟨cur, hc⟩ => ⟨cur, (hb.block _ (lt_at hc)).trans hc⟩, .inl rfl, .inl rfl⟩
theorem Ev.tn {σ : Nat → Prop} {ad : Option Addr} {cap : Nat} {room last : Int} {ps : List Nat} {l : List Gr} {cur : Array Value} (h : Bg σ W base p ad cap room last ps l) (ht : Tn p (ob ad) g' W V) (hl : W.heap[lb]? = some (.cells cur 48 (0, 0))) : Ev base lb o p (ob ad) g' r r W V := by
  have hlb := h.stays ht hl (by decide) (by decide)
  have hbz := Nat.le_trans h.pb (Nat.le_of_lt h.plt)
  refine ⟨ht.os, ht.tape, ht.output, ht.size, fun q c t z hq _ h2 h3 _ _ _ _ => (ht.block q (lt_at hq) (fun e => ?_) (fun e => ?_)).trans hq, fun k hk => ht.block k (by omega) (by have := h.pb; omega) (fun e => by have := (h.blk e.symm).1; omega), fun j _ => World.cell?_of_block (a := ⟨lb, j, none⟩) (hlb.trans hl.symm), fun _ => ⟨cur, hlb⟩, ht.own, .inl rfl⟩
  · have hq2 := hq
    rw [e] at hq2
    have := hq2.symm.trans h.obj
    simp only [Option.some.injEq, Obj.cells.injEq] at this
    exact h2 this.2.1 e
  · obtain ⟨_, c2, hc2⟩ := h.blk e.symm
    have := hq.symm.trans hc2
    simp only [Option.some.injEq, Obj.cells.injEq] at this
    exact h3 this.2.1 e
theorem Ev.tr {ad : Option Addr} {cap : Nat} {last most : Int} {l : List Gr} {av : List (Option Addr × Nat)} (h : Rg W base lb o ad cap last most l av) (ht : Tr lb o (ob ad) r' W V) (hlb : base ≤ lb) (hz : base ≤ W.heap.size) : Ev base lb o p g g (ob ad) r' W V := by
  refine ⟨ht.os, ht.tape, ht.output, ht.size, fun q c t z hq h1 _ _ h4 _ _ _ => (ht.block q (lt_at hq) h1 (fun e => ?_)).trans hq, fun k hk => ht.block k (by omega) (by omega) (fun e => by have := (h.blkR e.symm).1; omega), ht.cell, fun ⟨cur, hc⟩ => ht.typ cur hc, .inl rfl, ht.own⟩
  obtain ⟨_, c2, hc2⟩ := h.blkR e.symm
  have := hq.symm.trans hc2
  simp only [Option.some.injEq, Obj.cells.injEq] at this
  exact h4 this.2.1 e
theorem Ev.kw {σ : Nat → Prop} {bb : Nat} {cur : Array Value} (hk : Kw base bb W V) (hn : NK σ base bb W) (hl : W.heap[lb]? = some (.cells cur 48 (0, 0))) : Ev base lb o p g g r r W V := by
  have hq := hk.at hn hl (by decide) (by decide) (by decide)
  exact ⟨hk.os, hk.tape, hk.output, hk.size, fun q c t z hq _ _ _ _ h5 h6 h7 => hk.at hn hq h5 h6 h7, fun k hk2 => hk.low k hk2 (by have := hn.lo; omega), fun j _ => World.cell?_of_block (a := ⟨lb, j, none⟩) (hq.trans hl.symm), fun _ => ⟨cur, hq⟩, .inl rfl, .inl rfl⟩
theorem Ev.below {B : World} (h : Ev base lb o p g g' r r' W V) (hb : Below base B W) : Below base B V := hb.trans ⟨h.os, h.tape, h.output, h.size, h.low⟩
end
section
variable {σ τ : Nat → Prop} {base lb off bb p : Nat} {ad : Option Addr} {cap : Nat} {room last : Int} {ps : List Nat} {l : List Gr} {adR : Option Addr} {capR : Nat} {av : List (Option Addr × Nat)} {W V : World}
/-- The other one abides. -/
theorem Sd.ev {o p2 : Nat} {g g' r r' : Option Nat} (h : Sd σ base lb off bb p ad cap room last ps l adR capR av W) (he : Ev base lb o p2 g g' r r' W V) (hn : NK τ base bb V) (ho : off + 4 < o ∨ o + 3 ≤ off) (np : p ≠ p2) (nl : ∀ b, ob ad = some b → some b ≠ g) (nr : ∀ b, ob adR = some b → some b ≠ r) (hr : ∀ b, r = some b → σ b) (hτ : ∀ b, τ b → σ b ∨ W.heap.size ≤ b) (hs : ∀ b, τ b → b < V.heap.size) (ht : ∀ b, σ b → τ b) : Sd τ base lb off bb p ad cap room last ps l adR capR av V := by
  have nb : ∀ (q : Nat) (cur : Array Value) (t : TypeId) (z : Nat × Nat), W.heap[q]? = some (.cells cur t z) → t ≠ 48 → q ≠ lb := fun q cur t z hq ht e => by
    obtain ⟨c, hc⟩ := h.rg.blk
    rw [e, hc] at hq
    simp only [Option.some.injEq, Obj.cells.injEq] at hq
    exact ht hq.2.1.symm
  have hd8 : ∀ (q : Nat) (cur : Array Value), W.heap[q]? = some (.cells cur 5 (0, 0)) → V.heap[q]? = some (.cells cur 5 (0, 0)) := fun q cur hc => he.block q cur _ _ hc (nb _ _ _ _ hc (by decide)) (fun e => absurd e (by decide)) (fun e => absurd e (by decide)) (fun e => absurd e (by decide)) (by decide) (by decide) (by decide)
  refine ⟨(he.cell _ (by omega)).trans h.c0, (he.cell _ (by omega)).trans h.c4, h.bg.moveS ((he.block p _ _ _ h.bg.obj (nb _ _ _ _ h.bg.obj (by decide)) (fun _ => np) (fun e => absurd e (by decide)) (fun e => absurd e (by decide)) (by decide) (by decide) (by decide)).trans h.bg.obj.symm) (fun b e => ?_) (fun b c t hc ht hb => ?_) hτ hs, h.rg.move (fun j h1 h2 => he.cell j (by omega)) (he.typ h.rg.blk) (fun b e => ?_) (fun a b c _ _ hc => hd8 _ c hc), hn, h.lb0, fun b e => ht b (h.sr b e)⟩
  · obtain ⟨_, c, hc⟩ := h.bg.blk e
    exact (he.block b c _ _ hc (nb _ _ _ _ hc (by decide)) (fun e => absurd e (by decide)) (fun _ => nl b e) (fun e => absurd e (by decide)) (by decide) (by decide) (by decide)).trans hc.symm
  · rcases ht with rfl | rfl
    · exact he.block b c _ _ hc (nb _ _ _ _ hc (by decide)) (fun e => absurd e (by decide)) (fun e => absurd e (by decide)) (fun _ e => hb (hr b e.symm)) (by decide) (by decide) (by decide)
    · exact hd8 b c hc
  · obtain ⟨_, c, hc⟩ := h.rg.blkR e
    exact (he.block b c _ _ hc (nb _ _ _ _ hc (by decide)) (fun e => absurd e (by decide)) (fun e => absurd e (by decide)) (fun _ => nr b e) (by decide) (by decide) (by decide)).trans hc.symm
/-- The program's bag has turned, the document's not yet. -/
structure Sm (σ : Nat → Prop) (base lb off bb p : Nat) (ad : Option Addr) (cap : Nat) (room last : Int) (ps : List Nat) (l : List Gr) (adR : Option Addr) (capR : Nat) (av : List (Option Addr × Nat)) (lastR : Int) (lR : List Gr) (g : Option Nat) (W0 W : World) : Prop where
  c0 : W.cell? ⟨lb, off, none⟩ = some (.pointer (some ⟨p, 0, none⟩))
  c4 : W.cell? ⟨lb, off + 4, none⟩ = some (.pointer (some ⟨bb, 0, none⟩))
  bg : Bg σ W base p ad cap room last ps l
  rg : Rg W base lb (off + 1) adR capR lastR room lR av
  nk : NK σ base bb W
  lb0 : base ≤ lb
  sr : ∀ b, ob adR = some b → σ b
  ev : Ev base lb (off + 1) p g (ob ad) (ob adR) (ob adR) W0 W
theorem Sm.bz {lastR : Int} {lR : List Gr} {g : Option Nat} {W0 : World} (h : Sm σ base lb off bb p ad cap room last ps l adR capR av lastR lR g W0 W) : base ≤ W.heap.size := Nat.le_trans h.bg.pb (Nat.le_of_lt h.bg.plt)
theorem Sm.carry {lastR : Int} {lR : List Gr} {g : Option Nat} {W0 : World} (h : Sm σ base lb off bb p ad cap room last ps l adR capR av lastR lR g W0 W) (hb : Below W.heap.size W V) : Sm σ base lb off bb p ad cap room last ps l adR capR av lastR lR g W0 V :=
  ⟨(hb.cell (p := ⟨lb, _, none⟩) h.rg.lt).trans h.c0, (hb.cell (p := ⟨lb, _, none⟩) h.rg.lt).trans h.c4, h.bg.carry hb, h.rg.carry hb, h.nk.carry hb, h.lb0, h.sr, h.ev.trans (Ev.of hb h.bz h.rg.lt)⟩
theorem Sd.mid {W0 : World} {ad1 : Option Addr} {cap1 : Nat} {last1 : Int} {ps1 : List Nat} {l1 : List Gr} (h : Sd σ base lb off bb p ad cap room last ps l adR capR av W) (h0 : Ev base lb (off + 1) p (ob ad) (ob ad) (ob adR) (ob adR) W0 W) (hB : Bg σ V base p ad1 cap1 room last1 ps1 l1) (ht : Tn p (ob ad) (ob ad1) W V) : Sm σ base lb off bb p ad1 cap1 room last1 ps1 l1 adR capR av last l (ob ad) W0 V := by
  obtain ⟨cur, hl⟩ := h.rg.blk
  have hlb := h.bg.stays ht hl (by decide) (by decide)
  have hce : ∀ j, V.cell? ⟨lb, j, none⟩ = W.cell? ⟨lb, j, none⟩ := fun j => World.cell?_of_block (a := ⟨lb, j, none⟩) (hlb.trans hl.symm)
  refine ⟨(hce _).trans h.c0, (hce _).trans h.c4, hB, h.rg.move (fun j _ _ => hce j) ⟨cur, hlb⟩ (fun b e => ?_) (fun a b c _ _ hc => h.bg.stays ht hc (by decide) (by decide)), h.nk.move (fun b c t hc ht2 => ?_), h.lb0, h.sr, h0.trans (Ev.tn h.bg ht hl)⟩
  · obtain ⟨_, c, hc⟩ := h.rg.blkR e
    exact (h.bg.stays ht hc (by decide) (by decide)).trans hc.symm
  · rcases ht2 with rfl | rfl | rfl | ⟨rfl, _⟩ | ⟨rfl, _⟩ <;> exact h.bg.stays ht hc (by decide) (by decide)
/-- The document's has turned too. -/
theorem Sm.doc {g : Option Nat} {W0 : World} {lastR : Int} {lR : List Gr} {adR1 : Option Addr} {capR1 : Nat} {av1 : List (Option Addr × Nat)} (h : Sm σ base lb off bb p ad cap room last ps l adR capR av lastR lR g W0 W) (hR : Rg V base lb (off + 1) adR1 capR1 last room l av1) (ht : Tr lb (off + 1) (ob adR) (ob adR1) W V) : Sd (fun b => σ b ∨ ob adR1 = some b) base lb off bb p ad cap room last ps l adR1 capR1 av1 V ∧ Ev base lb (off + 1) p g (ob ad) (ob adR) (ob adR1) W0 V := by
  have he : Ev base lb (off + 1) p (ob ad) (ob ad) (ob adR) (ob adR1) W V := Ev.tr h.rg ht h.lb0 h.bz
  have nb : ∀ (q : Nat) (cur : Array Value) (t : TypeId) (z : Nat × Nat), W.heap[q]? = some (.cells cur t z) → t ≠ 48 → t ≠ 62 → V.heap[q]? = some (.cells cur t z) := fun q cur t z hq ht1 ht2 => (ht.block q (lt_at hq) (fun e => by
    obtain ⟨c, hc⟩ := h.rg.blk
    rw [e, hc] at hq
    simp only [Option.some.injEq, Obj.cells.injEq] at hq
    exact ht1 hq.2.1.symm) (fun e => by
    obtain ⟨_, c, hc⟩ := h.rg.blkR e.symm
    rw [hc] at hq
    simp only [Option.some.injEq, Obj.cells.injEq] at hq
    exact ht2 hq.2.1.symm)).trans hq
  have hbl : ∀ b, ob adR1 = some b → b < V.heap.size := fun b e => by
    obtain ⟨_, c, hc⟩ := hR.blkR e
    exact lt_at hc
  refine ⟨⟨(ht.cell _ (by omega)).trans h.c0, (ht.cell _ (by omega)).trans h.c4, h.bg.moveS ((nb p _ _ _ h.bg.obj (by decide) (by decide)).trans h.bg.obj.symm) (fun b e => ?_) (fun b c t hc ht2 hb => ?_) (fun b hb => ?_) (fun b hb => ?_), hR, (h.nk.more (τ := fun b => σ b ∨ ob adR1 = some b) (fun b hb => ?_)).move (fun b c t hc ht2 => ?_), h.lb0, fun b e => .inr e⟩, h.ev.trans he⟩
  · obtain ⟨_, c, hc⟩ := h.bg.blk e
    exact (nb b _ _ _ hc (by decide) (by decide)).trans hc.symm
  · rcases ht2 with rfl | rfl
    · refine (ht.block b (lt_at hc) (fun e => ?_) (fun e => hb (h.sr b e.symm))).trans hc
      obtain ⟨c2, hc2⟩ := h.rg.blk
      rw [e, hc2] at hc
      simp only [Option.some.injEq, Obj.cells.injEq] at hc
      exact absurd hc.2.1 (by decide)
    · exact nb b _ _ _ hc (by decide) (by decide)
  · rcases hb with hb | hb
    · exact .inl hb
    · rcases ht.own with q | q
      · rw [q] at hb
        exact .inl (h.sr b hb)
      · exact .inr (q b hb)
  · rcases hb with hb | hb
    · exact Nat.lt_of_lt_of_le (h.bg.sg b hb) ht.size
    · exact hbl b hb
  · rcases hb with hb | hb
    · exact .inl hb
    · rcases ht.own with q | q
      · rw [q] at hb
        exact .inl (h.sr b hb)
      · exact .inr (q b hb)
  · rcases ht2 with rfl | rfl | rfl | ⟨rfl, _⟩ | ⟨rfl, hb⟩
    · exact nb b _ _ _ hc (by decide) (by decide)
    · exact nb b _ _ _ hc (by decide) (by decide)
    · exact nb b _ _ _ hc (by decide) (by decide)
    · exact nb b _ _ _ hc (by decide) (by decide)
    · refine (ht.block b (lt_at hc) (fun e => ?_) (fun e => hb (.inl (h.sr b e.symm)))).trans hc
      obtain ⟨c2, hc2⟩ := h.rg.blk
      rw [e, hc2] at hc
      simp only [Option.some.injEq, Obj.cells.injEq] at hc
      exact absurd hc.2.1 (by decide)
end
end Go.Proofs.YtjfbnikbmadgkaaGreat
