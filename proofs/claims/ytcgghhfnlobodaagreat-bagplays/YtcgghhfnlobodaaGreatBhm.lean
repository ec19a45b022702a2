/- Steps of the play of bags: Take. -/
import Derived.Test.YtcgghhfnlobodaaGreatBhl
namespace Go.Proofs.YtcgghhfnlobodaaGreat
open Go.RowKit Go.Shelf Go.Lib

/-- While the program's datagram is taken, and laid in a box. -/
structure JTa (σ : Nat → Prop) (base lb off bb p : Nat) (ad : Option Addr) (cap : Nat) (room last : Int) (ps : List Nat) (l : List Gr) (adR : Option Addr) (capR : Nat) (av : List (Option Addr × Nat)) (l1 : List Gr) (x : Gr) (n : Nat) (w : World) (who iA jA kA : Int) (v : Value) (g : GX) (d6 d10 d11 : Bool) (V : World) : Prop where
  op : OpB V w.heap.size 3 who iA jA kA v
  z : w.heap.size ≤ V.heap.size
  a : d6 = false → Sd (fun b => σ b ∨ (d10 = true ∧ b = g.2.2)) base lb off bb p ad cap room last ps l adR capR av V ∧ Ev base lb (off + 1) p (ob ad) (ob ad) (ob adR) (ob adR) w V
  b : d6 = true → (∃ ad1 cap1 ps1, Sm (fun b => σ b ∨ (d10 = true ∧ b = g.2.2)) base lb off bb p ad1 cap1 room last ps1 l1 adR capR av last l (ob ad) w V) ∧ V.ownsRow w.heap.size 5 1 (.slice g.1 n g.2.1) n (cB x.2.2.2)
  bx : d10 = true → w.heap.size ≤ g.2.2 ∧ (d11 = false → GB V g.2.2 0 0 0 (.slice none 0 0)) ∧ (d11 = true → GB V g.2.2 x.1 x.2.1 x.2.2.1 (.slice g.1 n g.2.1))
  rl : ∀ b, ob adR = some b → b < w.heap.size
section
variable {σ : Nat → Prop} {base lb off bb p : Nat} {ad : Option Addr} {cap : Nat} {room last : Int} {ps : List Nat} {l : List Gr} {adR : Option Addr} {capR : Nat} {av : List (Option Addr × Nat)} {l1 : List Gr} {x : Gr} {n : Nat} {w : World} {who iA jA kA : Int} {v : Value} {g : GX} {d6 d10 d11 : Bool} {V V' : World}
theorem W4_size (V : World) (B : Nat) (i f t : Int) (u : Value) : (W4 V B i f t u).heap.size = V.heap.size := by simp [W4]
theorem JTa.p0 (h : JTa σ base lb off bb p ad cap room last ps l adR capR av l1 x n w who iA jA kA v g d6 d10 d11 V) : V.cell? ⟨lb, off, none⟩ = some (.pointer (some ⟨p, 0, none⟩)) := by
  cases d6 with
  | false => exact (h.a rfl).1.c0
  | true =>
    obtain ⟨⟨_, _, _, hm⟩, _⟩ := h.b rfl
    exact hm.c0
theorem JTa.told {a : Option Addr} {c : Nat} {ad1 : Option Addr} {cap1 : Nat} {ps1 : List Nat} (h : JTa σ base lb off bb p ad cap room last ps l adR capR av l1 x n w who iA jA kA v g false d10 false V) (hT : Tn p (ob ad) (ob ad1) V V') (hB : Bg (fun b => σ b ∨ (d10 = true ∧ b = g.2.2)) V' base p ad1 cap1 room last ps1 l1) (ho : V'.ownsRow V.heap.size 5 1 (.slice a n c) n (cB x.2.2.2)) : JTa σ base lb off bb p ad cap room last ps l adR capR av l1 x n w who iA jA kA v (a, c, g.2.2) true d10 false V' := by
  obtain ⟨h1, h2⟩ := h.a rfl
  exact ⟨h.op.tn h1.bg hT, Nat.le_trans h.z hT.size, (fun e => by cases e), fun _ => ⟨⟨ad1, cap1, ps1, h1.mid h2 hB hT⟩, row_base ho h.z⟩, fun e => ⟨(h.bx e).1, fun q => h1.bg.stays hT ((h.bx e).2.1 q) (by decide) (by decide), (fun q => by cases q)⟩, h.rl⟩
theorem JTa.new (h : JTa σ base lb off bb p ad cap room last ps l adR capR av l1 x n w who iA jA kA v g d6 false false V) : JTa σ base lb off bb p ad cap room last ps l adR capR av l1 x n w who iA jA kA v (g.1, g.2.1, V.heap.size) d6 true false (V.alloc (.cells #[.int .i64 0, .int .i64 0, .int .i64 0, .slice none 0 0] 62)) := by
  have hb := al1' V (.cells #[.int .i64 0, .int .i64 0, .int .i64 0, .slice none 0 0] 62)
  have hz : (V.alloc (.cells #[.int .i64 0, .int .i64 0, .int .i64 0, .slice none 0 0] 62)).heap.size = V.heap.size + 1 := by simp
  have t1 : ∀ b, (σ b ∨ (true = true ∧ b = V.heap.size)) → (σ b ∨ (false = true ∧ b = g.2.2)) ∨ V.heap.size ≤ b := fun b q => by
    rcases q with q | ⟨_, q⟩
    · exact .inl (.inl q)
    · exact .inr (by omega)
  have t3 : ∀ b, (σ b ∨ (false = true ∧ b = g.2.2)) → (σ b ∨ (true = true ∧ b = V.heap.size)) := fun b q => by
    rcases q with q | ⟨q, _⟩
    · exact .inl q
    · cases q
  refine ⟨h.op.carry hb, Nat.le_trans h.z hb.size, fun e => ?_, fun e => ?_, fun _ => ⟨h.z, fun _ => new_at rfl, (fun q => by cases q)⟩, h.rl⟩
  · obtain ⟨h1, h2⟩ := h.a e
    exact ⟨h1.more hb t1 (fun b q => by
      rcases q with q | ⟨_, q⟩
      · have := h1.bg.sg b (.inl q); omega
      · rw [q, hz]; exact Nat.lt_succ_self _) t3, h2.trans (Ev.of hb h1.bz h1.rg.lt)⟩
  · obtain ⟨⟨a1, c1, p1, hm⟩, hd⟩ := h.b e
    exact ⟨⟨a1, c1, p1, hm.more hb t1 (fun b q => by
      rcases q with q | ⟨_, q⟩
      · have := hm.bg.sg b (.inl q); omega
      · rw [q, hz]; exact Nat.lt_succ_self _) t3⟩, row_below hd hb⟩
theorem JTa.store (h : JTa σ base lb off bb p ad cap room last ps l adR capR av l1 x n w who iA jA kA v g true true false V) (hbz : base ≤ w.heap.size) : (Instr.storeAt 62 (.pointer (some ⟨g.2.2, 0, none⟩)) (.agg #[.int .i64 x.1, .int .i64 x.2.1, .int .i64 x.2.2.1, .slice g.1 n g.2.1])).run Tryz.prog V = .ok () (W4 V g.2.2 x.1 x.2.1 x.2.2.1 (.slice g.1 n g.2.1)) ∧ JTa σ base lb off bb p ad cap room last ps l adR capR av l1 x n w who iA jA kA v g true true true (W4 V g.2.2 x.1 x.2.1 x.2.2.1 (.slice g.1 n g.2.1)) := by
  obtain ⟨b1, b2, _⟩ := h.bx rfl
  have hG := b2 rfl
  obtain ⟨⟨a1, c1, p1, hm⟩, hd⟩ := h.b rfl
  have hq : ∀ q, q ≠ g.2.2 → (W4 V g.2.2 x.1 x.2.1 x.2.2.1 (.slice g.1 n g.2.1)).heap[q]? = V.heap[q]? := fun q e => other4 e _ _ _ _
  have hz := W4_size V g.2.2 x.1 x.2.1 x.2.2.1 (.slice g.1 n g.2.1)
  have hn : (Value.slice g.1 n g.2.1).ownBlock ≠ some g.2.2 := fun e => by
    obtain ⟨_, c, hc⟩ := own_blk hd g.2.2 e
    have := hc.symm.trans hG
    simp only [Option.some.injEq, Obj.cells.injEq] at this
    exact absurd this.2.1 (by decide)
  refine ⟨store_G hG, put_types hG hq _ _ _ _ h.op (by decide), by rw [hz]; exact h.z, (fun e => by cases e), fun _ => ⟨⟨a1, c1, p1, hm.put4 hG hq (by rw [hz]; exact Nat.le_refl _) (.inr ⟨rfl, rfl⟩) (fun e => by have := h.rl _ e; omega) b1 hbz ⟨rfl, rfl, rfl⟩⟩, row_other (row_other (row_other (row_other hd hn _) hn _) hn _) hn _⟩, fun _ => ⟨b1, (fun q => by cases q), fun _ => hG.set _ _ _ _⟩, h.rl⟩
end
/-- While the document's datagram is taken, and laid in a box. -/
structure JTb (σ : Nat → Prop) (base lb off bb p : Nat) (ad : Option Addr) (cap : Nat) (room last : Int) (ps : List Nat) (l : List Gr) (adR : Option Addr) (capR : Nat) (av : List (Option Addr × Nat)) (l1 : List Gr) (x : Gr) (n : Nat) (w : World) (who iA jA kA : Int) (v : Value) (a1 : Option Addr) (c1 : Nat) (p1 : List Nat) (gA : Option Addr) (cA BA N0 : Nat) (g : GX) (d5 d9 d10 : Bool) (V : World) : Prop where
  op : OpB V w.heap.size 3 who iA jA kA v
  z : N0 ≤ V.heap.size
  b1 : GB V BA x.1 x.2.1 x.2.2.1 (.slice gA n cA)
  d1 : V.ownsRow w.heap.size 5 1 (.slice gA n cA) n (cB x.2.2.2)
  a : d5 = false → Sm (fun b => (σ b ∨ b = BA) ∨ (d9 = true ∧ b = g.2.2)) base lb off bb p a1 c1 room last p1 l1 adR capR av last l (ob ad) w V
  b : d5 = true → ∃ adR1 capR1 av1, Sd (fun b => ((σ b ∨ b = BA) ∨ (d9 = true ∧ b = g.2.2)) ∨ ob adR1 = some b) base lb off bb p a1 c1 room last p1 l1 adR1 capR1 av1 V ∧ Ev base lb (off + 1) p (ob ad) (ob a1) (ob adR) (ob adR1) w V ∧ (d9 = true → ob adR1 ≠ some g.2.2) ∧ (∀ b, ob adR1 = some b → σ b ∨ w.heap.size ≤ b) ∧ RdY V g.1 x.2.2.2
  bx : d9 = true → N0 ≤ g.2.2 ∧ g.2.2 < V.heap.size ∧ (d10 = false → GB V g.2.2 0 0 0 (.slice none 0 0)) ∧ (d10 = true → GB V g.2.2 x.1 x.2.1 x.2.2.1 (.slice g.1 n g.2.1))
  rl : ∀ b, ob adR = some b → b < w.heap.size ∧ σ b
  ba : w.heap.size ≤ BA ∧ BA < N0
section
variable {σ : Nat → Prop} {base lb off bb p : Nat} {ad : Option Addr} {cap : Nat} {room last : Int} {ps : List Nat} {l : List Gr} {adR : Option Addr} {capR : Nat} {av : List (Option Addr × Nat)} {l1 : List Gr} {x : Gr} {n : Nat} {w : World} {who iA jA kA : Int} {v : Value} {a1 : Option Addr} {c1 : Nat} {p1 : List Nat} {gA : Option Addr} {cA BA N0 : Nat} {g : GX} {d5 d9 d10 : Bool} {V V' : World}
theorem JTb.told {a : Option Addr} {c : Nat} {adR1 : Option Addr} {capR1 : Nat} {av1 : List (Option Addr × Nat)} (h : JTb σ base lb off bb p ad cap room last ps l adR capR av l1 x n w who iA jA kA v a1 c1 p1 gA cA BA N0 g false d9 false V) (hR : Rg V' base lb (off + 1) adR1 capR1 last room l1 av1) (hT : Tr lb (off + 1) (ob adR) (ob adR1) V V') (hd : RdY V' a x.2.2.2) : JTb σ base lb off bb p ad cap room last ps l adR capR av l1 x n w who iA jA kA v a1 c1 p1 gA cA BA N0 (a, c, g.2.2) true d9 false V' := by
  have hm := h.a rfl
  obtain ⟨q1, q2⟩ := hm.doc hR hT
  have kb : ∀ (B : Nat) (i f t : Int) (u : Value), w.heap.size ≤ B → GB V B i f t u → GB V' B i f t u := fun B i f t u hB hG => (hT.block B (lt_at hG) (fun e => by
    obtain ⟨c, hc⟩ := hm.rg.blk
    rw [← e] at hc
    have := hc.symm.trans hG
    simp only [Option.some.injEq, Obj.cells.injEq] at this
    exact absurd this.2.1 (by decide)) (fun e => by have := (h.rl B e.symm).1; omega)).trans hG
  have ku : ∀ (q : Nat) (cur : Array Value), V.heap[q]? = some (.cells cur 5 (0, 0)) → V'.heap[q]? = some (.cells cur 5 (0, 0)) := fun q cur hc => (hT.block q (lt_at hc) (fun e => by
    obtain ⟨c, hc2⟩ := hm.rg.blk
    rw [← e] at hc2
    have := hc2.symm.trans hc
    simp only [Option.some.injEq, Obj.cells.injEq] at this
    exact absurd this.2.1 (by decide)) (fun e => by
    obtain ⟨_, c, hc2⟩ := hm.rg.blkR e.symm
    have := hc2.symm.trans hc
    simp only [Option.some.injEq, Obj.cells.injEq] at this
    exact absurd this.2.1 (by decide))).trans hc
  have hz0 := h.ba
  refine ⟨h.op.tr hm.rg hT, Nat.le_trans h.z hT.size, kb _ _ _ _ _ hz0.1 h.b1, row_at h.d1 (fun q cur _ hc => ku q cur hc), (fun e => by cases e), fun _ => ⟨adR1, capR1, av1, q1, q2, fun e e2 => ?_, fun b e => ?_, hd⟩, fun e => ⟨(h.bx e).1, Nat.lt_of_lt_of_le (h.bx e).2.1 hT.size, fun q => kb _ _ _ _ _ (by show w.heap.size ≤ g.2.2; have := (h.bx e).1; omega) ((h.bx e).2.2.1 q), (fun q => by cases q)⟩, h.rl, h.ba⟩
  · have k1 := h.bx e
    dsimp only at e2
    rcases hT.own with k | k
    · rw [k] at e2
      have := (h.rl _ e2).1
      omega
    · have := k _ e2
      omega
  · rcases hT.own with k | k
    · rw [k] at e
      exact .inl (h.rl b e).2
    · have := k b e
      have := h.z
      exact .inr (by omega)
theorem JTb.new (h : JTb σ base lb off bb p ad cap room last ps l adR capR av l1 x n w who iA jA kA v a1 c1 p1 gA cA BA N0 g d5 false false V) : JTb σ base lb off bb p ad cap room last ps l adR capR av l1 x n w who iA jA kA v a1 c1 p1 gA cA BA N0 (g.1, g.2.1, V.heap.size) d5 true false (V.alloc (.cells #[.int .i64 0, .int .i64 0, .int .i64 0, .slice none 0 0] 62)) := by
  have hb := al1' V (.cells #[.int .i64 0, .int .i64 0, .int .i64 0, .slice none 0 0] 62)
  have hz : (V.alloc (.cells #[.int .i64 0, .int .i64 0, .int .i64 0, .slice none 0 0] 62)).heap.size = V.heap.size + 1 := by simp
  refine ⟨h.op.carry hb, Nat.le_trans h.z hb.size, h.b1.carry hb, row_below h.d1 hb, fun e => ?_, fun e => ?_, fun _ => ⟨h.z, by rw [hz]; exact Nat.lt_succ_self _, fun _ => new_at rfl, (fun q => by cases q)⟩, h.rl, h.ba⟩
  · have hm := h.a e
    refine hm.more hb (fun b q => ?_) (fun b q => ?_) (fun b q => ?_)
    · rcases q with q | ⟨_, q⟩
      · exact .inl (.inl q)
      · exact .inr (by dsimp only at q; omega)
    · rcases q with q | ⟨_, q⟩
      · have := hm.bg.sg b (.inl q); omega
      · dsimp only at q; omega
    · rcases q with q | ⟨q, _⟩
      · exact .inl q
      · cases q
  · obtain ⟨adR1, capR1, av1, k1, k2, k3, k4, k5⟩ := h.b e
    refine ⟨adR1, capR1, av1, k1.more hb (fun b q => ?_) (fun b q => ?_) (fun b q => ?_), k2.trans (Ev.of hb k1.bz k1.rg.lt), fun _ e2 => ?_, k4, k5.carry hb⟩
    · rcases q with (q | ⟨_, q⟩) | q
      · exact .inl (.inl (.inl q))
      · exact .inr (by dsimp only at q; omega)
      · exact .inl (.inr q)
    · rcases q with (q | ⟨_, q⟩) | q
      · have := k1.bg.sg b (.inl (.inl q)); omega
      · dsimp only at q; omega
      · have := k1.bg.sg b (.inr q); omega
    · rcases q with (q | ⟨q, _⟩) | q
      · exact .inl (.inl q)
      · cases q
      · exact .inr q
    · obtain ⟨_, c, hc⟩ := k1.rg.blkR e2
      have := lt_at hc
      dsimp only at this
      omega
theorem JTb.store (h : JTb σ base lb off bb p ad cap room last ps l adR capR av l1 x n w who iA jA kA v a1 c1 p1 gA cA BA N0 g true true false V) (hbz : base ≤ w.heap.size) : (Instr.storeAt 62 (.pointer (some ⟨g.2.2, 0, none⟩)) (.agg #[.int .i64 x.1, .int .i64 x.2.1, .int .i64 x.2.2.1, .slice g.1 n g.2.1])).run Tryz.prog V = .ok () (W4 V g.2.2 x.1 x.2.1 x.2.2.1 (.slice g.1 n g.2.1)) ∧ JTb σ base lb off bb p ad cap room last ps l adR capR av l1 x n w who iA jA kA v a1 c1 p1 gA cA BA N0 g true true true (W4 V g.2.2 x.1 x.2.1 x.2.2.1 (.slice g.1 n g.2.1)) := by
  obtain ⟨b1, b2, b3, _⟩ := h.bx rfl
  have hG := b3 rfl
  have hba := h.ba
  obtain ⟨adR1, capR1, av1, k1, k2, k3, k4, k5⟩ := h.b rfl
  have hq : ∀ q, q ≠ g.2.2 → (W4 V g.2.2 x.1 x.2.1 x.2.2.1 (.slice g.1 n g.2.1)).heap[q]? = V.heap[q]? := fun q e => other4 e _ _ _ _
  have hz := W4_size V g.2.2 x.1 x.2.1 x.2.2.1 (.slice g.1 n g.2.1)
  have hty := put_types hG hq
  refine ⟨store_G hG, hty _ _ _ _ h.op (by decide), by rw [hz]; exact h.z, (hq BA (by omega)).trans h.b1, row_at h.d1 (fun _ _ _ hc => hty _ _ _ _ hc (by decide)), (fun e => by cases e), fun _ => ⟨adR1, capR1, av1, k1.put4 hG hq (by rw [hz]; exact Nat.le_refl _) (.inl (.inr ⟨rfl, rfl⟩)) (k3 rfl), k2.put hG hq (by rw [hz]; exact Nat.le_refl _) (by omega) hbz ⟨rfl, rfl, rfl⟩ k1.rg.blk, k3, k4, fun hx => ?_⟩, fun _ => ⟨b1, by rw [hz]; exact b2, (fun q => by cases q), fun _ => hG.set _ _ _ _⟩, h.rl, h.ba⟩
  obtain ⟨b, o, e1, ⟨cur, e2⟩, e3⟩ := k5 hx
  have e4 := hty _ _ _ _ e2 (by decide)
  exact ⟨b, o, e1, ⟨cur, e4⟩, e3.carry (e4.trans e2.symm)⟩
end
end Go.Proofs.YtcgghhfnlobodaaGreat
