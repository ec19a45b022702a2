/- Steps of the play of bags: Take. -/
import Derived.Test.YtcgghhfnlobodaaGreatBhk
namespace Go.Proofs.YtcgghhfnlobodaaGreat
open Go.RowKit Go.Shelf Go.Lib

section
variable {σ τ : Nat → Prop} {base lb off bb p : Nat} {ad : Option Addr} {cap : Nat} {room last : Int} {ps : List Nat} {l : List Gr} {adR : Option Addr} {capR : Nat} {av : List (Option Addr × Nat)} {lastR : Int} {lR : List Gr} {g : Option Nat} {w W V : World}
theorem Sm.more (h : Sm σ base lb off bb p ad cap room last ps l adR capR av lastR lR g w W) (hb : Below W.heap.size W V) (hτ : ∀ b, τ b → σ b ∨ W.heap.size ≤ b) (hs : ∀ b, τ b → b < V.heap.size) (ht : ∀ b, σ b → τ b) : Sm τ base lb off bb p ad cap room last ps l adR capR av lastR lR g w V :=
  ⟨(hb.cell (p := ⟨lb, _, none⟩) h.rg.lt).trans h.c0, (hb.cell (p := ⟨lb, _, none⟩) h.rg.lt).trans h.c4, h.bg.moveS (hb.block _ h.bg.plt) (fun b e => hb.block b (h.bg.blt e)) (fun b _ _ hc _ _ => (hb.block b (lt_at hc)).trans hc) hτ hs, h.rg.carry hb, h.nk.carry hb, h.lb0, fun b e => ht b (h.sr b e), h.ev.trans (Ev.of hb h.bz h.rg.lt)⟩
/-- A datagram's box is written: it is none of the bags'. -/
theorem put_types {B : Nat} {cB : Array Value} (hB : W.heap[B]? = some (.cells cB 62 (0, 0))) (hq : ∀ q, q ≠ B → V.heap[q]? = W.heap[q]?) : ∀ (q : Nat) (c : Array Value) (t : TypeId) (z : Nat × Nat), W.heap[q]? = some (.cells c t z) → t ≠ 62 → V.heap[q]? = some (.cells c t z) := fun q c t z hc ht => (hq q (fun e => by
  rw [e, hB] at hc
  simp only [Option.some.injEq, Obj.cells.injEq] at hc
  exact ht hc.2.1.symm)).trans hc
theorem Ev.put {o p2 : Nat} {g' r r' : Option Nat} {B : Nat} {cB : Array Value} (h : Ev base lb o p2 g g' r r' w W) (hB : W.heap[B]? = some (.cells cB 62 (0, 0))) (hq : ∀ q, q ≠ B → V.heap[q]? = W.heap[q]?) (hz : W.heap.size ≤ V.heap.size) (hw : w.heap.size ≤ B) (hbz : base ≤ w.heap.size) (ho : V.os = W.os ∧ V.tape = W.tape ∧ V.output = W.output) (hl : ∃ cur, W.heap[lb]? = some (.cells cur 48 (0, 0))) : Ev base lb o p2 g g' r r' w V := by
  obtain ⟨cl, hl⟩ := hl
  have hl2 := put_types hB hq _ _ _ _ hl (by decide)
  refine ⟨ho.1.trans h.os, ho.2.1.trans h.tape, ho.2.2.trans h.output, Nat.le_trans h.size hz, fun q c t z hc a1 a2 a3 a4 a5 a6 a7 => (hq q (fun e => ?_)).trans (h.block q c t z hc a1 a2 a3 a4 a5 a6 a7), fun k hk => (hq k (by omega)).trans (h.low k hk), fun j hj => (World.cell?_of_block (a := ⟨lb, j, none⟩) (hl2.trans hl.symm)).trans (h.cell j hj), fun _ => ⟨cl, hl2⟩, h.own, h.ownr⟩
  have := lt_at hc
  omega
theorem Bg.put4 {B : Nat} {cB : Array Value} (h : Bg σ W base p ad cap room last ps l) (hB : W.heap[B]? = some (.cells cB 62 (0, 0))) (hq : ∀ q, q ≠ B → V.heap[q]? = W.heap[q]?) (hz : W.heap.size ≤ V.heap.size) (hs : σ B) : Bg σ V base p ad cap room last ps l :=
  h.move hz ((put_types hB hq _ _ _ _ h.obj (by decide)).trans h.obj.symm) (fun b e => by obtain ⟨_, c, hc⟩ := h.blk e; exact (put_types hB hq _ _ _ _ hc (by decide)).trans hc.symm) (fun b _ _ hc _ hb => (hq b (fun e => hb (by rw [e]; exact hs))).trans hc)
theorem Rg.put4 {o : Nat} {most : Int} {B : Nat} {cB : Array Value} (h : Rg W base lb o ad cap last most l av) (hB : W.heap[B]? = some (.cells cB 62 (0, 0))) (hq : ∀ q, q ≠ B → V.heap[q]? = W.heap[q]?) (hr : ob ad ≠ some B) : Rg V base lb o ad cap last most l av := by
  obtain ⟨cl, hl⟩ := h.blk
  have hl2 := put_types hB hq _ _ _ _ hl (by decide)
  exact h.move (fun j _ _ => World.cell?_of_block (a := ⟨lb, j, none⟩) (hl2.trans hl.symm)) ⟨cl, hl2⟩ (fun b e => hq b (fun e2 => hr (by rw [e, e2]))) (fun _ _ _ _ _ hc => put_types hB hq _ _ _ _ hc (by decide))
theorem NK.put4 {B : Nat} {cB : Array Value} (h : NK base bb W) (hB : W.heap[B]? = some (.cells cB 62 (0, 0))) (hq : ∀ q, q ≠ B → V.heap[q]? = W.heap[q]?) : NK base bb V := h.move (fun _ _ _ hc ht => by rcases ht with rfl | rfl | rfl <;> exact put_types hB hq _ _ _ _ hc (by decide))
theorem Sm.put4 {B : Nat} {cB : Array Value} (h : Sm σ base lb off bb p ad cap room last ps l adR capR av lastR lR g w W) (hB : W.heap[B]? = some (.cells cB 62 (0, 0))) (hq : ∀ q, q ≠ B → V.heap[q]? = W.heap[q]?) (hz : W.heap.size ≤ V.heap.size) (hs : σ B) (hr : ob adR ≠ some B) (hw : w.heap.size ≤ B) (hbz : base ≤ w.heap.size) (ho : V.os = W.os ∧ V.tape = W.tape ∧ V.output = W.output) : Sm σ base lb off bb p ad cap room last ps l adR capR av lastR lR g w V := by
  obtain ⟨cl, hl⟩ := h.rg.blk
  have hl2 := put_types hB hq _ _ _ _ hl (by decide)
  have hce : ∀ j, V.cell? ⟨lb, j, none⟩ = W.cell? ⟨lb, j, none⟩ := fun j => World.cell?_of_block (a := ⟨lb, j, none⟩) (hl2.trans hl.symm)
  exact ⟨(hce _).trans h.c0, (hce _).trans h.c4, h.bg.put4 hB hq hz hs, h.rg.put4 hB hq hr, h.nk.put4 hB hq, h.lb0, h.sr, h.ev.put hB hq hz hw hbz ho ⟨cl, hl⟩⟩
theorem Sd.put4 {B : Nat} {cB : Array Value} (h : Sd σ base lb off bb p ad cap room last ps l adR capR av W) (hB : W.heap[B]? = some (.cells cB 62 (0, 0))) (hq : ∀ q, q ≠ B → V.heap[q]? = W.heap[q]?) (hz : W.heap.size ≤ V.heap.size) (hs : σ B) (hr : ob adR ≠ some B) : Sd σ base lb off bb p ad cap room last ps l adR capR av V := by
  obtain ⟨cl, hl⟩ := h.rg.blk
  have hl2 := put_types hB hq _ _ _ _ hl (by decide)
  have hce : ∀ j, V.cell? ⟨lb, j, none⟩ = W.cell? ⟨lb, j, none⟩ := fun j => World.cell?_of_block (a := ⟨lb, j, none⟩) (hl2.trans hl.symm)
  exact ⟨(hce _).trans h.c0, (hce _).trans h.c4, h.bg.put4 hB hq hz hs, h.rg.put4 hB hq hr, h.nk.put4 hB hq, h.lb0, h.sr⟩
end
end Go.Proofs.YtcgghhfnlobodaaGreat
