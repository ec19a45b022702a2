/- The document's bag: what turns it alone; Send: what it answers. -/
import Derived.Test.YtjfbnikbmadgkaaGreatBgs
namespace Go.Proofs.YtjfbnikbmadgkaaGreat
open Go.RowKit Go.Shelf

/-- What turns a bag of the document's alone: its three cells, and its row's block. -/
structure Tr (lb o : Nat) (g g' : Option Nat) (W W' : World) : Prop where
  os : W'.os = W.os
  tape : W'.tape = W.tape
  output : W'.output = W.output
  size : W.heap.size ≤ W'.heap.size
  block : ∀ k, k < W.heap.size → k ≠ lb → some k ≠ g → W'.heap[k]? = W.heap[k]?
  cell : ∀ j, (j < o ∨ o + 3 ≤ j) → W'.cell? ⟨lb, j, none⟩ = W.cell? ⟨lb, j, none⟩
  typ : ∀ cur, W.heap[lb]? = some (.cells cur 48 (0, 0)) → ∃ cur', W'.heap[lb]? = some (.cells cur' 48 (0, 0))
  own : g' = g ∨ ∀ b, g' = some b → W.heap.size ≤ b
theorem Tr.of {lb : Nat} (o : Nat) (g : Option Nat) {W W' : World} (hb : Below W.heap.size W W') (hl : lb < W.heap.size) : Tr lb o g g W W' :=
  ⟨hb.os, hb.tape, hb.output, hb.size, fun k hk _ _ => hb.block k hk, fun j _ => hb.cell (p := ⟨lb, j, none⟩) hl, fun cur hc => ⟨cur, (hb.block _ hl).trans hc⟩, .inl rfl⟩
theorem Tr.trans {lb o : Nat} {g g' g'' : Option Nat} {W W' W'' : World} (h : Tr lb o g g' W W') (k : Tr lb o g' g'' W' W'') : Tr lb o g g'' W W'' := by
  refine ⟨k.os.trans h.os, k.tape.trans h.tape, k.output.trans h.output, Nat.le_trans h.size k.size, fun j hj h1 h2 => ?_, fun j hj => (k.cell j hj).trans (h.cell j hj), fun cur hc => ?_, ?_⟩
  · refine (k.block j (Nat.lt_of_lt_of_le hj h.size) h1 (fun e => ?_)).trans (h.block j hj h1 h2)
    rcases h.own with q | q
    · exact h2 (e.trans q)
    · have := q j e.symm
      omega
  · obtain ⟨cur', hc'⟩ := h.typ cur hc
    exact k.typ cur' hc'
  · rcases k.own with q | q
    · rw [q]
      exact h.own
    · exact .inr fun b e => Nat.le_trans h.size (q b e)
theorem cell_put {W : World} {B j i : Nat} {cur : Array Value} {t : TypeId} (h : W.heap[B]? = some (.cells cur t (0, 0))) (v : Value) (hne : i ≠ j) : (W.setCell ⟨B, j, none⟩ v).cell? ⟨B, i, none⟩ = W.cell? ⟨B, i, none⟩ := by
  have hs := heap_setCell_same _ _ j _ _ v h
  rw [cell_at hs i, cell_at h i, Array.getElem?_setIfInBounds_ne (by omega)]
theorem cell_put_same {W : World} {B j : Nat} {cur : Array Value} {t : TypeId} (h : W.heap[B]? = some (.cells cur t (0, 0))) {u : Value} (hu : W.cell? ⟨B, j, none⟩ = some u) (v : Value) : (W.setCell ⟨B, j, none⟩ v).cell? ⟨B, j, none⟩ = some v := by
  have hs := heap_setCell_same _ _ j _ _ v h
  rw [cell_at h j] at hu
  have hj := (Array.getElem?_eq_some_iff.1 hu).1
  rw [cell_at hs j]
  simp [hj]
section
variable {w : World} {base lb o : Nat} {ad : Option Addr} {cap : Nat} {last most : Int} {l : List Gr} {av : List (Option Addr × Nat)}
theorem Rg.ne (h : Rg w base lb o ad cap last most l av) : ob ad ≠ some lb := by
  intro e
  obtain ⟨_, cur, h2⟩ := own_blk h.row lb (by rw [ob_eq]; exact e)
  obtain ⟨cur', h3⟩ := h.blk
  rw [h2] at h3
  cases h3
/-- The bytes abide. -/
theorem Rg.rd (h : Rg w base lb o ad cap last most l av) {V : World} {g' : Option Nat} (ht : Tr lb o (ob ad) g' w V) {a : Option Addr} {d : List Nat} (hd : RdY w a d) : RdY V a d := fun hn => by
  obtain ⟨b, off, h1, ⟨cur, h2⟩, h3⟩ := hd hn
  have h4 : V.heap[b]? = w.heap[b]? := ht.block b (lt_at h2) (fun e => by obtain ⟨cur', h5⟩ := h.blk; rw [e, h5] at h2; cases h2) (fun e => by obtain ⟨_, cur', h5⟩ := own_blk h.row b (by rw [ob_eq]; exact e.symm); rw [h5] at h2; cases h2)
  exact ⟨b, off, h1, ⟨cur, h4.trans h2⟩, h3.carry h4⟩
/-- The last id is put. -/
theorem Rg.count (h : Rg w base lb o ad cap last most l av) (x : Int) : Rg (w.setCell ⟨lb, o + 1, none⟩ (.int .i64 x)) base lb o ad cap x most l av ∧ Tr lb o (ob ad) (ob ad) w (w.setCell ⟨lb, o + 1, none⟩ (.int .i64 x)) := by
  obtain ⟨cur, hc⟩ := h.blk
  have hs := heap_setCell_same _ _ (o + 1) _ _ (.int .i64 x) hc
  have ht : Tr lb o (ob ad) (ob ad) w (w.setCell ⟨lb, o + 1, none⟩ (.int .i64 x)) := ⟨rfl, rfl, rfl, by simp, fun k _ h1 _ => Below.heap_setCell _ _ _ _ h1, fun j hj => cell_put hc _ (by omega), fun _ _ => ⟨_, hs⟩, .inl rfl⟩
  exact ⟨⟨(cell_put hc _ (by omega)).trans h.cL, cell_put_same hc h.cA _, (cell_put hc _ (by omega)).trans h.cM, ⟨_, hs⟩, row_other h.row (by rw [ob_eq]; exact h.ne) _, h.len, fun k y a h1 h2 => ⟨h.rd ht (h.dat k y a h1 h2).1, (h.dat k y a h1 h2).2⟩, h.few, h.most1, h.le⟩, ht⟩
/-- A new row is put. -/
theorem Rg.turn {u : World} {ad' : Option Addr} {cap' : Nat} {l' : List Gr} {av' : List (Option Addr × Nat)} (h : Rg w base lb o ad cap last most l av) (hg : w.grownBy u (ob ad)) (hown : ob ad' = ob ad ∨ ob ad' = some w.heap.size) (hrow : u.ownsRow base 62 4 (.slice ad' l'.length cap') l'.length (flG l' av')) (hlen : av'.length = l'.length)
    (hdat : ∀ (k : Nat) (x : Gr) (a : Option Addr × Nat), l'[k]? = some x → av'[k]? = some a → RdY w a.1 x.2.2.2 ∧ (a.1 = none → a.2 = 0)) (hfew : ∀ x ∈ l', x.2.2.2.length ≤ 1024 ∧ Byt x.2.2.2) (hle : (l'.length : Int) ≤ most) :
    Rg (u.setCell ⟨lb, o, none⟩ (.slice ad' l'.length cap')) base lb o ad' cap' last most l' av' ∧ Tr lb o (ob ad) (ob ad') w (u.setCell ⟨lb, o, none⟩ (.slice ad' l'.length cap')) := by
  have hlb := h.lt
  have hne := h.ne
  obtain ⟨cur, hc⟩ := h.blk
  have hbu : u.heap[lb]? = w.heap[lb]? := hg.block lb hlb (fun e => hne e.symm)
  have hcu := hbu.trans hc
  have hs := heap_setCell_same _ _ o _ _ (.slice ad' l'.length cap') hcu
  have ce : ∀ j, u.cell? ⟨lb, j, none⟩ = w.cell? ⟨lb, j, none⟩ := fun j => World.cell?_of_block (a := ⟨lb, j, none⟩) hbu
  have ht : Tr lb o (ob ad) (ob ad') w (u.setCell ⟨lb, o, none⟩ (.slice ad' l'.length cap')) := by
    refine ⟨hg.os, hg.tape, hg.output, by simpa using hg.size, fun k hk h1 h2 => (Below.heap_setCell _ _ _ _ h1).trans (hg.block k hk h2), fun j hj => (cell_put hcu _ (by omega)).trans (ce j), fun _ _ => ⟨_, hs⟩, ?_⟩
    rcases hown with q | q
    · exact .inl q
    · exact .inr fun b e => by rw [q] at e; cases e; exact Nat.le_refl _
  refine ⟨⟨cell_put_same hcu ((ce o).trans h.cL) _, (cell_put hcu _ (by omega)).trans ((ce _).trans h.cA), (cell_put hcu _ (by omega)).trans ((ce _).trans h.cM), ⟨_, hs⟩, row_other hrow ?_ _, hlen, fun k x a h1 h2 => ⟨h.rd ht (hdat k x a h1 h2).1, (hdat k x a h1 h2).2⟩, hfew, h.most1, hle⟩, ht⟩
  rw [ob_eq]
  intro e
  rcases hown with q | q
  · exact hne (q.symm.trans e)
  · rw [q] at e
    simp at e
    omega
end
end Go.Proofs.YtjfbnikbmadgkaaGreat
