/- A node that is up, with all that it has; what turns it alone. -/
import Derived.Test.YtgngopdkfcmndaaGreatDoorJnJ20
import Derived.Test.YtgngopdkfcmndaaGreatDoorJnJ24
import Derived.Test.YtgngopdkfcmndaaGreatDoorJnJ22
import Derived.Laws.EntriesVeiled
namespace Go.Proofs.YtgngopdkfcmndaaGreatDoor
open Go.RowKit Go.Shelf Go.Lib
attribute [local go_sem] Oper.semAt_some

/-- Where a node's things lie. -/
structure NA where
  q : Nat
  p : Nat
  bp : Nat
  g : Nat
  tq : Nat
  ta : Option Addr
  tc : Nat
  pa : Option Addr
  pc : Nat
/-- What a node has. -/
structure Ns where
  n : Nat
  f : Nat
  s : Nat
  d : Dst
  b : Bo
  l : List N3
  H : Nat
  t : Tl
  ev : List Ev
structure Nd (W : World) (base x : Nat) (A : NA) (s : Ns) : Prop where
  obj : Nb W x (some ⟨A.q, 0, none⟩) (s.n : Int) (s.f : Int) (s.s : Int) (some ⟨A.bp, 0, none⟩) s.H (some ⟨A.tq, 0, none⟩) (.slice A.pa s.ev.length A.pc)
  bt : Bt W A.q (some ⟨A.p, 0, none⟩) s.b
  dk : Dk W A.p s.d
  bk : Bk W A.bp A.g s.l
  ta : Ta W base A.tq A.ta A.tc s.t
  past : W.ownsRow base 91 15 (.slice A.pa s.ev.length A.pc) s.ev.length (ecs s.ev)
  xb : base ≤ x
  qb : base ≤ A.q
  pb : base ≤ A.p
  kb : base ≤ A.bp
  gb : base ≤ A.g
def nown (x : Nat) (A : NA) (k : Nat) : Prop := k = x ∨ k = A.q ∨ k = A.p ∨ k = A.g ∨ k = A.tq ∨ some k = ob A.ta ∨ some k = ob A.pa
/-- What turns a node alone. -/
structure Mv (x : Nat) (A A' : NA) (W W' : World) : Prop where
  os : W'.os = W.os
  tape : W'.tape = W.tape
  output : W'.output = W.output
  size : W.heap.size ≤ W'.heap.size
  block : ∀ k, k < W.heap.size → ¬ nown x A k → W'.heap[k]? = W.heap[k]?
  own : ∀ k, nown x A' k → nown x A k ∨ W.heap.size ≤ k
  sm : A'.q = A.q ∧ A'.p = A.p ∧ A'.bp = A.bp ∧ A'.g = A.g
theorem nty {W : World} {a b : Nat} {c c' : Array Value} {t t' : TypeId} {z z' : Nat × Nat} (h : W.heap[a]? = some (.cells c t z)) (k : W.heap[b]? = some (.cells c' t' z')) (hn : t ≠ t') : a ≠ b := fun e => by
  rw [e, k] at h
  simp only [Option.some.injEq, Obj.cells.injEq] at h
  exact hn h.2.1.symm
section
variable {x : Nat} {A A' A'' : NA} {W V U : World} {base : Nat} {s : Ns}
theorem Mv.of (x : Nat) (A : NA) (hb : Below W.heap.size W V) : Mv x A A W V := ⟨hb.os, hb.tape, hb.output, hb.size, fun k hk _ => hb.block k hk, fun _ h => .inl h, rfl, rfl, rfl, rfl⟩
theorem Mv.trans (h : Mv x A A' W V) (k : Mv x A' A'' V U) : Mv x A A'' W U :=
  ⟨k.os.trans h.os, k.tape.trans h.tape, k.output.trans h.output, Nat.le_trans h.size k.size,
   fun j hj hn => (k.block j (Nat.lt_of_lt_of_le hj h.size) (fun e => (h.own j e).elim hn (fun g => by omega))).trans (h.block j hj hn),
   fun j hj => (k.own j hj).elim (fun e => h.own j e) (fun e => .inr (Nat.le_trans h.size e)),
   k.sm.1.trans h.sm.1, k.sm.2.1.trans h.sm.2.1, k.sm.2.2.1.trans h.sm.2.2.1, k.sm.2.2.2.trans h.sm.2.2.2⟩
theorem Nd.sz (h : Nd W base x A s) : base ≤ W.heap.size := Nat.le_trans h.xb (Nat.le_of_lt h.obj.lt)
theorem Nd.tyT (h : Nd W base x A s) {k : Nat} (e : ob A.ta = some k) : base ≤ k ∧ ∃ cur, W.heap[k]? = some (.cells cur 33 (0, 0)) := h.ta.blk e
theorem Nd.tyE (h : Nd W base x A s) {k : Nat} (e : ob A.pa = some k) : base ≤ k ∧ ∃ cur, W.heap[k]? = some (.cells cur 91 (0, 0)) := rowBlk h.past k (by rw [ob_eq]; exact e)
theorem Nd.tyown (h : Nd W base x A s) {k : Nat} (e : nown x A k) : base ≤ k := by
  rcases e with e | e | e | e | e | e | e
  · exact e ▸ h.xb
  · exact e ▸ h.qb
  · exact e ▸ h.pb
  · exact e ▸ h.gb
  · exact e ▸ h.ta.qb
  · exact (h.tyT e.symm).1
  · exact (h.tyE e.symm).1
theorem Mv.below (m : Mv x A A' W V) (h : Nd W base x A s) : Below base W V := ⟨m.os, m.tape, m.output, m.size, fun k hk => m.block k (Nat.lt_of_lt_of_le hk h.sz) (fun e => by have := h.tyown e; omega)⟩
theorem Nd.carry (h : Nd W base x A s) (hb : Below W.heap.size W V) : Nd V base x A s :=
  ⟨h.obj.carry hb, h.bt.carry hb, h.dk.carry hb, h.bk.carry hb, h.ta.carry hb, row_below h.past hb, h.xb, h.qb, h.pb, h.kb, h.gb⟩
/-! What stays where a set of blocks turns. -/
variable {σ : Nat → Prop}
theorem Nd.btS (h : Nd W base x A s) (hV : ∀ k, k < W.heap.size → ¬ σ k → V.heap[k]? = W.heap[k]?) (n : ¬ σ A.q) : Bt V A.q (some ⟨A.p, 0, none⟩) s.b := (hV _ (lt_at h.bt) n).trans h.bt
theorem Nd.dkS (h : Nd W base x A s) (hV : ∀ k, k < W.heap.size → ¬ σ k → V.heap[k]? = W.heap[k]?) (n : ¬ σ A.p) : Dk V A.p s.d := ⟨(hV _ h.dk.lt n).trans h.dk.obj, h.dk.len, h.dk.byt⟩
theorem Nd.bkS (h : Nd W base x A s) (hV : ∀ k, k < W.heap.size → ¬ σ k → V.heap[k]? = W.heap[k]?) (n : ¬ σ A.bp) (m : ¬ σ A.g) : Bk V A.bp A.g s.l := ⟨(hV _ h.bk.plt n).trans h.bk.obj, (hV _ h.bk.glt m).trans h.bk.row⟩
theorem Nd.taS (h : Nd W base x A s) (hV : ∀ k, k < W.heap.size → ¬ σ k → V.heap[k]? = W.heap[k]?) (n : ¬ σ A.tq) (m : ∀ k, ob A.ta = some k → ¬ σ k) : Ta V base A.tq A.ta A.tc s.t := ⟨h.ta.qb, (hV _ h.ta.lt n).trans h.ta.obj, row_moved h.ta.row (fun k e => hV k ((row_lt2 h.ta.row k e).2) (m k (by rw [ob_eq] at e; exact e)))⟩
/-! All are apart, by their blocks' types. -/
theorem Nd.xq (h : Nd W base x A s) : x ≠ A.q := nty h.obj h.bt (by decide)
theorem Nd.xp (h : Nd W base x A s) : x ≠ A.p := nty h.obj h.dk.obj (by decide)
theorem Nd.xg (h : Nd W base x A s) : x ≠ A.g := nty h.obj h.bk.row (by decide)
theorem Nd.xk (h : Nd W base x A s) : A.bp ≠ x := nty h.bk.obj h.obj (by decide)
theorem Nd.xt (h : Nd W base x A s) : x ≠ A.tq := nty h.obj h.ta.obj (by decide)
theorem Nd.T {b : Nat} {c : Array Value} {t : TypeId} {z : Nat × Nat} (h : Nd W base x A s) (hb : W.heap[b]? = some (.cells c t z)) (hn : t ≠ 33) : ob A.ta ≠ some b := fun e => by obtain ⟨_, cur, hc⟩ := h.tyT e; exact nty hb hc hn rfl
theorem Nd.E {b : Nat} {c : Array Value} {t : TypeId} {z : Nat × Nat} (h : Nd W base x A s) (hb : W.heap[b]? = some (.cells c t z)) (hn : t ≠ 91) : ob A.pa ≠ some b := fun e => by obtain ⟨_, cur, hc⟩ := h.tyE e; exact nty hb hc hn rfl
theorem Nd.TE (h : Nd W base x A s) {k : Nat} (e : ob A.ta = some k) : ob A.pa ≠ some k := fun e2 => by
  obtain ⟨_, cur, hc⟩ := h.tyT e
  exact h.E hc (by decide) e2
/-! What turns one of them. -/
/-- The list of events. -/
theorem Nd.rem (h : Nd W base x A s) {e : Ev} {ad : Option Addr} {cap : Nat} (hN : Nb V x (some ⟨A.q, 0, none⟩) (s.n : Int) (s.f : Int) (s.s : Int) (some ⟨A.bp, 0, none⟩) s.H (some ⟨A.tq, 0, none⟩) (.slice ad (s.ev.length + 1) cap)) (hr : V.ownsRow base 91 15 (.slice ad (s.ev.length + 1) cap) (s.ev.length + 1) (ecs (s.ev ++ [e]))) (ht : Tn x (ob A.pa) (ob ad) W V) : Nd V base x { A with pa := ad, pc := cap } { s with ev := s.ev ++ [e] } ∧ Mv x A { A with pa := ad, pc := cap } W V := by
  have hV : ∀ k, k < W.heap.size → ¬ (k = x ∨ some k = ob A.pa) → V.heap[k]? = W.heap[k]? := fun k hk hn => ht.block k hk (fun e => hn (.inl e)) (fun e => hn (.inr e))
  have hl : (s.ev ++ [e]).length = s.ev.length + 1 := by simp
  refine ⟨⟨by simp only [hl]; exact hN, h.btS hV (fun e => e.elim h.xq.symm (fun e => h.E h.bt (by decide) e.symm)), h.dkS hV (fun e => e.elim h.xp.symm (fun e => h.E h.dk.obj (by decide) e.symm)), h.bkS hV (fun e => e.elim h.xk (fun e => h.E h.bk.obj (by decide) e.symm)) (fun e => e.elim h.xg.symm (fun e => h.E h.bk.row (by decide) e.symm)), h.taS hV (fun e => e.elim h.xt.symm (fun e => h.E h.ta.obj (by decide) e.symm)) (fun k e1 e => e.elim (fun e => h.T h.obj (by decide) (e ▸ e1)) (fun e => h.TE e1 e.symm)), by simp only [hl]; exact hr, h.xb, h.qb, h.pb, h.kb, h.gb⟩, ?_⟩
  refine ⟨ht.os, ht.tape, ht.output, ht.size, fun k hk hn => hV k hk (fun e => hn (e.elim (fun e => .inl e) (fun e => .inr (.inr (.inr (.inr (.inr (.inr e)))))))), fun k e => ?_, rfl, rfl, rfl, rfl⟩
  rcases e with e | e | e | e | e | e | e
  · exact .inl (.inl e)
  · exact .inl (.inr (.inl e))
  · exact .inl (.inr (.inr (.inl e)))
  · exact .inl (.inr (.inr (.inr (.inl e))))
  · exact .inl (.inr (.inr (.inr (.inr (.inl e)))))
  · exact .inl (.inr (.inr (.inr (.inr (.inr (.inl e))))))
  · rcases ht.own with e2 | e2
    · exact .inl (.inr (.inr (.inr (.inr (.inr (.inr (e.trans e2)))))))
    · exact .inr (e2 k e.symm)
def setHd (W : World) (x M : Nat) : World := (((W.setCell ⟨x, 5, none⟩ (.int .u32 (wd M 0 : Nat))).setCell ⟨x, 6, none⟩ (.int .u32 (wd M 1 : Nat))).setCell ⟨x, 7, none⟩ (.int .u32 (wd M 2 : Nat))).setCell ⟨x, 8, none⟩ (.int .u32 (wd M 3 : Nat))
theorem Nb.putH {vb : Option Addr} {n f s : Int} {vk : Option Addr} {H : Nat} {vt : Option Addr} {vp : Value} (h : Nb W x vb n f s vk H vt vp) (M : Nat) : Nb (setHd W x M) x vb n f s vk M vt vp ∧ TpZ x W (setHd W x M) := by
  have h0 := heap_setCell_same _ _ 5 _ _ (.int .u32 (wd M 0 : Nat)) h
  have h1 := heap_setCell_same _ _ 6 _ _ (.int .u32 (wd M 1 : Nat)) h0
  have h2 := heap_setCell_same _ _ 7 _ _ (.int .u32 (wd M 2 : Nat)) h1
  have h3 := heap_setCell_same _ _ 8 _ _ (.int .u32 (wd M 3 : Nat)) h2
  exact ⟨h3, (((TpZ.set _ _ _ _).trans (TpZ.set _ _ _ _)).trans (TpZ.set _ _ _ _)).trans (TpZ.set _ _ _ _)⟩
end
end Go.Proofs.YtgngopdkfcmndaaGreatDoor
namespace Go.Proofs.YtgngopdkfcmndaaGreatDoor
open Go.RowKit Go.Shelf Go.Lib

theorem filter_all (l : List N3) : l.filter pAll = l := List.filter_eq_self.2 (fun _ _ => rfl)
attribute [local go_sem] Oper.semAt_some

end Go.Proofs.YtgngopdkfcmndaaGreatDoor
namespace Go.Proofs.YtgngopdkfcmndaaGreatDoor
open Go.RowKit Go.Shelf Go.Lib
attribute [local go_sem] Oper.semAt_some

end Go.Proofs.YtgngopdkfcmndaaGreatDoor
