import Derived.Test.YtekjhcnaabpfmaaGreatDoorJnJ20
import Derived.Test.YtekjhcnaabpfmaaGreatDoorJnJ24
import Derived.Test.YtekjhcnaabpfmaaGreatDoorJnJ22
import Derived.Laws.EntriesVeiled
set_option maxHeartbeats 40000000
set_option maxRecDepth 100000
set_option linter.unusedVariables false
namespace Go.Proofs.YtekjhcnaabpfmaaGreatDoor
open Go.RowKit Go.Shelf Go.Lib
attribute [local go_sem] Oper.semAt_some
structure NA where
 q : Nat
 p : Nat
 bp : Nat
 g : Nat
 tq : Nat
 ta : Option Addr
 tc : Nat
 pa : Option Addr
 pc : Nat
structure Ns where
 n : Nat
 f : Nat
 s : Nat
 d : Dst
 b : Bo
 l : List N3
 H : Nat
 t : Tl
 ev : List Ev
structure Nd (W : World) (base x : Nat) (A : NA) (s : Ns) : Prop where
 obj : Nb W x (some ⟨A.q, 0, none⟩) (s.n : Int) (s.f : Int) (s.s : Int) (some ⟨A.bp, 0, none⟩) s.H (some ⟨A.tq, 0, none⟩) (.slice A.pa s.ev.length A.pc)
 bt : Bt W A.q (some ⟨A.p, 0, none⟩) s.b
 dk : Dk W A.p s.d
 bk : Bk W A.bp A.g s.l
 ta : Ta W base A.tq A.ta A.tc s.t
 past : W.ownsRow base 90 15 (.slice A.pa s.ev.length A.pc) s.ev.length (ecs s.ev)
 xb : base ≤ x
 qb : base ≤ A.q
 pb : base ≤ A.p
 kb : base ≤ A.bp
 gb : base ≤ A.g
def nown (x : Nat) (A : NA) (k : Nat) : Prop := k = x ∨ k = A.q ∨ k = A.p ∨ k = A.g ∨ k = A.tq ∨ some k = ob A.ta ∨ some k = ob A.pa
structure Mv (x : Nat) (A A' : NA) (W W' : World) : Prop where
 os : W'.os = W.os
 tape : W'.tape = W.tape
 output : W'.output = W.output
 size : W.heap.size ≤ W'.heap.size
 block : ∀ k, k < W.heap.size → ¬ nown x A k → W'.heap[k]? = W.heap[k]?
 own : ∀ k, nown x A' k → nown x A k ∨ W.heap.size ≤ k
 sm : A'.q = A.q ∧ A'.p = A.p ∧ A'.bp = A.bp ∧ A'.g = A.g
theorem nty {W : World} {a b : Nat} {c c' : Array Value} {t t' : TypeId} {z z' : Nat × Nat} (h : W.heap[a]? = some (.cells c t z)) (k : W.heap[b]? = some (.cells c' t' z')) (hn : t ≠ t') : a ≠ b := fun e => by
 rw [e, k] at h
 simp only [Option.some.injEq, Obj.cells.injEq] at h
 exact hn h.2.1.symm
section
variable {x : Nat} {A A' A'' : NA} {W V U : World} {base : Nat} {s : Ns}
theorem Mv.of (x : Nat) (A : NA) (hb : Below W.heap.size W V) : Mv x A A W V := ⟨hb.os, hb.tape, hb.output, hb.size, fun k hk _ => hb.block k hk, fun _ h => .inl h, rfl, rfl, rfl, rfl⟩
theorem Mv.trans (h : Mv x A A' W V) (k : Mv x A' A'' V U) : Mv x A A'' W U :=
 ⟨k.os.trans h.os, k.tape.trans h.tape, k.output.trans h.output, Nat.le_trans h.size k.size,
  fun j hj hn => (k.block j (Nat.lt_of_lt_of_le hj h.size) (fun e => (h.own j e).elim hn (fun g => by omega))).trans (h.block j hj hn),
  fun j hj => (k.own j hj).elim (fun e => h.own j e) (fun e => .inr (Nat.le_trans h.size e)),
  k.sm.1.trans h.sm.1, k.sm.2.1.trans h.sm.2.1, k.sm.2.2.1.trans h.sm.2.2.1, k.sm.2.2.2.trans h.sm.2.2.2⟩
theorem Nd.sz (h : Nd W base x A s) : base ≤ W.heap.size := Nat.le_trans h.xb (Nat.le_of_lt h.obj.lt)
theorem Nd.tyT (h : Nd W base x A s) {k : Nat} (e : ob A.ta = some k) : base ≤ k ∧ ∃ cur, W.heap[k]? = some (.cells cur 35 (0, 0)) := h.ta.blk e
theorem Nd.tyE (h : Nd W base x A s) {k : Nat} (e : ob A.pa = some k) : base ≤ k ∧ ∃ cur, W.heap[k]? = some (.cells cur 90 (0, 0)) := rowBlk h.past k (by rw [ob_eq]; exact e)
theorem Nd.tyown (h : Nd W base x A s) {k : Nat} (e : nown x A k) : base ≤ k := by
 rcases e with e | e | e | e | e | e | e
 · exact e ▸ h.xb
 · exact e ▸ h.qb
 · exact e ▸ h.pb
 · exact e ▸ h.gb
 · exact e ▸ h.ta.qb
 · exact (h.tyT e.symm).1
 · exact (h.tyE e.symm).1
theorem Mv.below (m : Mv x A A' W V) (h : Nd W base x A s) : Below base W V := ⟨m.os, m.tape, m.output, m.size, fun k hk => m.block k (Nat.lt_of_lt_of_le hk h.sz) (fun e => by have := h.tyown e; omega)⟩
theorem Nd.carry (h : Nd W base x A s) (hb : Below W.heap.size W V) : Nd V base x A s :=
 ⟨h.obj.carry hb, h.bt.carry hb, h.dk.carry hb, h.bk.carry hb, h.ta.carry hb, zrb h.past hb, h.xb, h.qb, h.pb, h.kb, h.gb⟩
variable {σ : Nat → Prop}
theorem Nd.objS (h : Nd W base x A s) (hV : ∀ k, k < W.heap.size → ¬ σ k → V.heap[k]? = W.heap[k]?) (n : ¬ σ x) : Nb V x (some ⟨A.q, 0, none⟩) (s.n : Int) (s.f : Int) (s.s : Int) (some ⟨A.bp, 0, none⟩) s.H (some ⟨A.tq, 0, none⟩) (.slice A.pa s.ev.length A.pc) := (hV _ h.obj.lt n).trans h.obj
theorem Nd.btS (h : Nd W base x A s) (hV : ∀ k, k < W.heap.size → ¬ σ k → V.heap[k]? = W.heap[k]?) (n : ¬ σ A.q) : Bt V A.q (some ⟨A.p, 0, none⟩) s.b := (hV _ (zla h.bt) n).trans h.bt
theorem Nd.dkS (h : Nd W base x A s) (hV : ∀ k, k < W.heap.size → ¬ σ k → V.heap[k]? = W.heap[k]?) (n : ¬ σ A.p) : Dk V A.p s.d := ⟨(hV _ h.dk.lt n).trans h.dk.obj, h.dk.len, h.dk.byt⟩
theorem Nd.bkS (h : Nd W base x A s) (hV : ∀ k, k < W.heap.size → ¬ σ k → V.heap[k]? = W.heap[k]?) (n : ¬ σ A.bp) (m : ¬ σ A.g) : Bk V A.bp A.g s.l := ⟨(hV _ h.bk.plt n).trans h.bk.obj, (hV _ h.bk.glt m).trans h.bk.row⟩
theorem Nd.taS (h : Nd W base x A s) (hV : ∀ k, k < W.heap.size → ¬ σ k → V.heap[k]? = W.heap[k]?) (n : ¬ σ A.tq) (m : ∀ k, ob A.ta = some k → ¬ σ k) : Ta V base A.tq A.ta A.tc s.t := ⟨h.ta.qb, (hV _ h.ta.lt n).trans h.ta.obj, row_moved h.ta.row (fun k e => hV k ((row_lt2 h.ta.row k e).2) (m k (by rw [ob_eq] at e; exact e)))⟩
theorem Nd.pastS (h : Nd W base x A s) (hV : ∀ k, k < W.heap.size → ¬ σ k → V.heap[k]? = W.heap[k]?) (m : ∀ k, ob A.pa = some k → ¬ σ k) : V.ownsRow base 90 15 (.slice A.pa s.ev.length A.pc) s.ev.length (ecs s.ev) := row_moved h.past (fun k e => hV k ((row_lt2 h.past k e).2) (m k (by rw [ob_eq] at e; exact e)))
theorem Nd.xq (h : Nd W base x A s) : x ≠ A.q := nty h.obj h.bt (by decide)
theorem Nd.xp (h : Nd W base x A s) : x ≠ A.p := nty h.obj h.dk.obj (by decide)
theorem Nd.xg (h : Nd W base x A s) : x ≠ A.g := nty h.obj h.bk.row (by decide)
theorem Nd.xk (h : Nd W base x A s) : A.bp ≠ x := nty h.bk.obj h.obj (by decide)
theorem Nd.xt (h : Nd W base x A s) : x ≠ A.tq := nty h.obj h.ta.obj (by decide)
theorem Nd.qg (h : Nd W base x A s) : A.q ≠ A.g := nty h.bt h.bk.row (by decide)
theorem Nd.kq (h : Nd W base x A s) : A.bp ≠ A.q := nty h.bk.obj h.bt (by decide)
theorem Nd.kp (h : Nd W base x A s) : A.bp ≠ A.p := nty h.bk.obj h.dk.obj (by decide)
theorem Nd.kt (h : Nd W base x A s) : A.bp ≠ A.tq := nty h.bk.obj h.ta.obj (by decide)
theorem Nd.pg (h : Nd W base x A s) : A.p ≠ A.g := nty h.dk.obj h.bk.row (by decide)
theorem Nd.qt (h : Nd W base x A s) : A.q ≠ A.tq := nty h.bt h.ta.obj (by decide)
theorem Nd.pt (h : Nd W base x A s) : A.p ≠ A.tq := nty h.dk.obj h.ta.obj (by decide)
theorem Nd.gt (h : Nd W base x A s) : A.g ≠ A.tq := nty h.bk.row h.ta.obj (by decide)
theorem Nd.T {b : Nat} {c : Array Value} {t : TypeId} {z : Nat × Nat} (h : Nd W base x A s) (hb : W.heap[b]? = some (.cells c t z)) (hn : t ≠ 35) : ob A.ta ≠ some b := fun e => by obtain ⟨_, cur, hc⟩ := h.tyT e; exact nty hb hc hn rfl
theorem Nd.E {b : Nat} {c : Array Value} {t : TypeId} {z : Nat × Nat} (h : Nd W base x A s) (hb : W.heap[b]? = some (.cells c t z)) (hn : t ≠ 90) : ob A.pa ≠ some b := fun e => by obtain ⟨_, cur, hc⟩ := h.tyE e; exact nty hb hc hn rfl
theorem Nd.TE (h : Nd W base x A s) {k : Nat} (e : ob A.ta = some k) : ob A.pa ≠ some k := fun e2 => by
 obtain ⟨_, cur, hc⟩ := h.tyT e
 exact h.E hc (by decide) e2
theorem Nd.bd (h : Nd W base x A s) {b : Bo} {d : Dst} (hB : Bt V A.q (some ⟨A.p, 0, none⟩) b) (hD : Dk V A.p d) (ht : Tq A.p A.q W V) : Nd V base x A { s with b := b, d := d } ∧ Mv x A A W V := by
 have hV : ∀ k, k < W.heap.size → ¬ (k = A.p ∨ k = A.q) → V.heap[k]? = W.heap[k]? := fun k hk hn => ht.block k hk (fun e => hn (.inl e)) (fun e => hn (.inr e))
 refine ⟨⟨h.objS hV (fun e => e.elim h.xp h.xq), hB, hD, h.bkS hV (fun e => e.elim h.kp h.kq) (fun e => e.elim (fun e => h.pg e.symm) (fun e => h.qg e.symm)), h.taS hV (fun e => e.elim (fun e => h.pt e.symm) (fun e => h.qt e.symm)) (fun k e1 e => e.elim (fun e => h.T h.dk.obj (by decide) (e ▸ e1)) (fun e => h.T h.bt (by decide) (e ▸ e1))), h.pastS hV (fun k e1 e => e.elim (fun e => h.E h.dk.obj (by decide) (e ▸ e1)) (fun e => h.E h.bt (by decide) (e ▸ e1))), h.xb, h.qb, h.pb, h.kb, h.gb⟩, ?_⟩
 exact ⟨ht.os, ht.tape, ht.output, ht.size, fun k hk hn => hV k hk (fun e => hn (e.elim (fun e => .inr (.inr (.inl e))) (fun e => .inr (.inl e)))), fun _ e => .inl e, rfl, rfl, rfl, rfl⟩
theorem Nd.book (h : Nd W base x A s) {l : List N3} (hB : Bk V A.bp A.g l) (hg : W.grownBy V (some A.g)) : Nd V base x A { s with l := l } ∧ Mv x A A W V := by
 have hV : ∀ k, k < W.heap.size → ¬ (k = A.g) → V.heap[k]? = W.heap[k]? := fun k hk hn => hg.block k hk (fun e => hn (Option.some.inj e))
 refine ⟨⟨h.objS hV h.xg, h.btS hV h.qg, h.dkS hV h.pg, hB, h.taS hV h.gt.symm (fun k e1 e => h.T h.bk.row (by decide) (e ▸ e1)), h.pastS hV (fun k e1 e => h.E h.bk.row (by decide) (e ▸ e1)), h.xb, h.qb, h.pb, h.kb, h.gb⟩, ?_⟩
 exact ⟨hg.os, hg.tape, hg.output, hg.size, fun k hk hn => hV k hk (fun e => hn (.inr (.inr (.inr (.inl e))))), fun _ e => .inl e, rfl, rfl, rfl, rfl⟩
theorem Nd.dfn (h : Nd W base x A s) {l : List N3} {b : Bo} {d : Dst} (hK : Bk V A.bp A.g l) (hB : Bt V A.q (some ⟨A.p, 0, none⟩) b) (hD : Dk V A.p d) (ht : Td A.g A.q A.p W V) : Nd V base x A { s with l := l, b := b, d := d } ∧ Mv x A A W V := by
 have hV : ∀ k, k < W.heap.size → ¬ (k = A.g ∨ k = A.q ∨ k = A.p) → V.heap[k]? = W.heap[k]? := fun k hk hn => ht.block k hk (fun e => hn (.inl e)) (fun e => hn (.inr (.inl e))) (fun e => hn (.inr (.inr e)))
 refine ⟨⟨h.objS hV (fun e => e.elim h.xg (fun e => e.elim h.xq h.xp)), hB, hD, hK, h.taS hV (fun e => e.elim (fun e => h.gt e.symm) (fun e => e.elim (fun e => h.qt e.symm) (fun e => h.pt e.symm))) (fun k e1 e => e.elim (fun e => h.T h.bk.row (by decide) (e ▸ e1)) (fun e => e.elim (fun e => h.T h.bt (by decide) (e ▸ e1)) (fun e => h.T h.dk.obj (by decide) (e ▸ e1)))), h.pastS hV (fun k e1 e => e.elim (fun e => h.E h.bk.row (by decide) (e ▸ e1)) (fun e => e.elim (fun e => h.E h.bt (by decide) (e ▸ e1)) (fun e => h.E h.dk.obj (by decide) (e ▸ e1)))), h.xb, h.qb, h.pb, h.kb, h.gb⟩, ?_⟩
 exact ⟨ht.os, ht.tape, ht.output, ht.size, fun k hk hn => hV k hk (fun e => hn (e.elim (fun e => .inr (.inr (.inr (.inl e)))) (fun e => e.elim (fun e => .inr (.inl e)) (fun e => .inr (.inr (.inl e)))))), fun _ e => .inl e, rfl, rfl, rfl, rfl⟩
theorem Nd.rem (h : Nd W base x A s) {e : Ev} {ad : Option Addr} {cap : Nat} (hN : Nb V x (some ⟨A.q, 0, none⟩) (s.n : Int) (s.f : Int) (s.s : Int) (some ⟨A.bp, 0, none⟩) s.H (some ⟨A.tq, 0, none⟩) (.slice ad (s.ev.length + 1) cap)) (hr : V.ownsRow base 90 15 (.slice ad (s.ev.length + 1) cap) (s.ev.length + 1) (ecs (s.ev ++ [e]))) (ht : Tn x (ob A.pa) (ob ad) W V) : Nd V base x { A with pa := ad, pc := cap } { s with ev := s.ev ++ [e] } ∧ Mv x A { A with pa := ad, pc := cap } W V := by
 have hV : ∀ k, k < W.heap.size → ¬ (k = x ∨ some k = ob A.pa) → V.heap[k]? = W.heap[k]? := fun k hk hn => ht.block k hk (fun e => hn (.inl e)) (fun e => hn (.inr e))
 have hl : (s.ev ++ [e]).length = s.ev.length + 1 := by simp
 refine ⟨⟨by simp only [hl]; exact hN, h.btS hV (fun e => e.elim h.xq.symm (fun e => h.E h.bt (by decide) e.symm)), h.dkS hV (fun e => e.elim h.xp.symm (fun e => h.E h.dk.obj (by decide) e.symm)), h.bkS hV (fun e => e.elim h.xk (fun e => h.E h.bk.obj (by decide) e.symm)) (fun e => e.elim h.xg.symm (fun e => h.E h.bk.row (by decide) e.symm)), h.taS hV (fun e => e.elim h.xt.symm (fun e => h.E h.ta.obj (by decide) e.symm)) (fun k e1 e => e.elim (fun e => h.T h.obj (by decide) (e ▸ e1)) (fun e => h.TE e1 e.symm)), by simp only [hl]; exact hr, h.xb, h.qb, h.pb, h.kb, h.gb⟩, ?_⟩
 refine ⟨ht.os, ht.tape, ht.output, ht.size, fun k hk hn => hV k hk (fun e => hn (e.elim (fun e => .inl e) (fun e => .inr (.inr (.inr (.inr (.inr (.inr e)))))))), fun k e => ?_, rfl, rfl, rfl, rfl⟩
 rcases e with e | e | e | e | e | e | e
 · exact .inl (.inl e)
 · exact .inl (.inr (.inl e))
 · exact .inl (.inr (.inr (.inl e)))
 · exact .inl (.inr (.inr (.inr (.inl e))))
 · exact .inl (.inr (.inr (.inr (.inr (.inl e)))))
 · exact .inl (.inr (.inr (.inr (.inr (.inr (.inl e))))))
 · rcases ht.own with e2 | e2
   · exact .inl (.inr (.inr (.inr (.inr (.inr (.inr (e.trans e2)))))))
   · exact .inr (e2 k e.symm)
theorem Nd.beg (h : Nd W base x A s) {t : Tl} {tq : Nat} {ad : Option Addr} {cap : Nat} (hN : Nb V x (some ⟨A.q, 0, none⟩) (s.n : Int) (s.f : Int) (s.s : Int) (some ⟨A.bp, 0, none⟩) s.H (some ⟨tq, 0, none⟩) (.slice A.pa s.ev.length A.pc)) (hT : Ta V W.heap.size tq ad cap t) (ht : TpZ x W V) : Nd V base x { A with tq := tq, ta := ad, tc := cap } { s with t := t } ∧ Mv x A { A with tq := tq, ta := ad, tc := cap } W V := by
 have hV : ∀ k, k < W.heap.size → ¬ (k = x) → V.heap[k]? = W.heap[k]? := fun k hk hn => ht.block k hk hn
 refine ⟨⟨hN, h.btS hV h.xq.symm, h.dkS hV h.xp.symm, h.bkS hV h.xk h.xg.symm, ⟨Nat.le_trans h.sz hT.qb, hT.obj, row_base hT.row h.sz⟩, h.pastS hV (fun k e1 e => h.E h.obj (by decide) (e ▸ e1)), h.xb, h.qb, h.pb, h.kb, h.gb⟩, ?_⟩
 refine ⟨ht.os, ht.tape, ht.output, ht.size, fun k hk hn => hV k hk (fun e => hn (.inl e)), fun k e => ?_, rfl, rfl, rfl, rfl⟩
 rcases e with e | e | e | e | e | e | e
 · exact .inl (.inl e)
 · exact .inl (.inr (.inl e))
 · exact .inl (.inr (.inr (.inl e)))
 · exact .inl (.inr (.inr (.inr (.inl e))))
 · exact .inr (by simp only at e; rw [e]; exact hT.qb)
 · exact .inr ((hT.blk e.symm).1)
 · exact .inl (.inr (.inr (.inr (.inr (.inr (.inr e))))))
theorem Nd.tak (h : Nd W base x A s) {t : Tl} {ad : Option Addr} {cap : Nat} (hT : Ta V base A.tq ad cap t) (ht : Tn A.tq (ob A.ta) (ob ad) W V) : Nd V base x { A with ta := ad, tc := cap } { s with t := t } ∧ Mv x A { A with ta := ad, tc := cap } W V := by
 have hV : ∀ k, k < W.heap.size → ¬ (k = A.tq ∨ some k = ob A.ta) → V.heap[k]? = W.heap[k]? := fun k hk hn => ht.block k hk (fun e => hn (.inl e)) (fun e => hn (.inr e))
 refine ⟨⟨h.objS hV (fun e => e.elim h.xt (fun e => h.T h.obj (by decide) e.symm)), h.btS hV (fun e => e.elim h.qt (fun e => h.T h.bt (by decide) e.symm)), h.dkS hV (fun e => e.elim h.pt (fun e => h.T h.dk.obj (by decide) e.symm)), h.bkS hV (fun e => e.elim h.kt (fun e => h.T h.bk.obj (by decide) e.symm)) (fun e => e.elim h.gt (fun e => h.T h.bk.row (by decide) e.symm)), hT, h.pastS hV (fun k e1 e => e.elim (fun e => h.E h.ta.obj (by decide) (e ▸ e1)) (fun e => h.TE e.symm e1)), h.xb, h.qb, h.pb, h.kb, h.gb⟩, ?_⟩
 refine ⟨ht.os, ht.tape, ht.output, ht.size, fun k hk hn => hV k hk (fun e => hn (e.elim (fun e => .inr (.inr (.inr (.inr (.inl e))))) (fun e => .inr (.inr (.inr (.inr (.inr (.inl e)))))))), fun k e => ?_, rfl, rfl, rfl, rfl⟩
 rcases e with e | e | e | e | e | e | e
 · exact .inl (.inl e)
 · exact .inl (.inr (.inl e))
 · exact .inl (.inr (.inr (.inl e)))
 · exact .inl (.inr (.inr (.inr (.inl e))))
 · exact .inl (.inr (.inr (.inr (.inr (.inl e)))))
 · rcases ht.own with e2 | e2
   · exact .inl (.inr (.inr (.inr (.inr (.inr (.inl (e.trans e2)))))))
   · exact .inr (e2 k e.symm)
 · exact .inl (.inr (.inr (.inr (.inr (.inr (.inr e))))))
def setHd (W : World) (x M : Nat) : World := (((W.setCell ⟨x, 5, none⟩ (.int .u32 (wd M 0 : Nat))).setCell ⟨x, 6, none⟩ (.int .u32 (wd M 1 : Nat))).setCell ⟨x, 7, none⟩ (.int .u32 (wd M 2 : Nat))).setCell ⟨x, 8, none⟩ (.int .u32 (wd M 3 : Nat))
theorem Nb.putH {vb : Option Addr} {n f s : Int} {vk : Option Addr} {H : Nat} {vt : Option Addr} {vp : Value} (h : Nb W x vb n f s vk H vt vp) (M : Nat) : Nb (setHd W x M) x vb n f s vk M vt vp ∧ TpZ x W (setHd W x M) := by
 have h0 := heap_setCell_same _ _ 5 _ _ (.int .u32 (wd M 0 : Nat)) h
 have h1 := heap_setCell_same _ _ 6 _ _ (.int .u32 (wd M 1 : Nat)) h0
 have h2 := heap_setCell_same _ _ 7 _ _ (.int .u32 (wd M 2 : Nat)) h1
 have h3 := heap_setCell_same _ _ 8 _ _ (.int .u32 (wd M 3 : Nat)) h2
 exact ⟨h3, (((TpZ.set _ _ _ _).trans (TpZ.set _ _ _ _)).trans (TpZ.set _ _ _ _)).trans (TpZ.set _ _ _ _)⟩
theorem Nd.hrd (h : Nd W base x A s) (M : Nat) : Nd (setHd W x M) base x A { s with H := M } ∧ Mv x A A W (setHd W x M) := by
 obtain ⟨h1, ht⟩ := h.obj.putH M
 have hV : ∀ k, k < W.heap.size → ¬ (k = x) → (setHd W x M).heap[k]? = W.heap[k]? := fun k hk hn => ht.block k hk hn
 refine ⟨⟨h1, h.btS hV h.xq.symm, h.dkS hV h.xp.symm, h.bkS hV h.xk h.xg.symm, h.taS hV h.xt.symm (fun k e1 e => h.T h.obj (by decide) (e ▸ e1)), h.pastS hV (fun k e1 e => h.E h.obj (by decide) (e ▸ e1)), h.xb, h.qb, h.pb, h.kb, h.gb⟩, ?_⟩
 exact ⟨ht.os, ht.tape, ht.output, ht.size, fun k hk hn => hV k hk (fun e => hn (.inl e)), fun _ e => .inl e, rfl, rfl, rfl, rfl⟩
end
end Go.Proofs.YtekjhcnaabpfmaaGreatDoor
namespace Go.Proofs.YtekjhcnaabpfmaaGreatDoor
open Go.RowKit Go.Shelf Go.Lib
theorem Zh4.turn {W V : World} {p g b : Nat} {c : Nat → Nat} {l : List N3} (hs : Zh4 W b c) (h : Bk W p g l) (hg : W.grownBy V (some g)) : Zh4 V b c :=
 (hg.block _ (zla hs) (by simpa using (h.ne4 hs).2.symm)).trans hs
theorem filter_all (l : List N3) : l.filter pAll = l := List.filter_eq_self.2 (fun _ _ => rfl)
theorem Made.rd {w W : World} {v : Value} {l : List N3} (h : Made w W v l) : ∃ ad cap, v = .slice ad l.length cap ∧ RdN W ad l ∧ (∀ a, ad = some a → w.heap.size ≤ a.block) := by
 unfold Made at h
 rcases own_form h with ⟨rfl, e⟩ | ⟨g, cap, rfl, h1, h2, h3⟩
 · refine ⟨none, 0, by rw [e], fun hn => ?_, fun a ha => by cases ha⟩
   exact absurd (List.eq_nil_of_length_eq_zero e) hn
 · exact ⟨some ⟨g, 0, none⟩, cap, rfl, fun _ => ⟨g, 0, rfl, h2, nts_own h rfl⟩, fun a ha => by obtain rfl := Option.some.inj ha; exact h1⟩
attribute [local go_sem] Oper.semAt_some
theorem vals_seq (l : List N3) (b bx : Nat) (ad : Option Addr) (cap : Nat) (w : World) (hl : l.length ≤ 6000000000000) (hs : w.heap[b]? = some (.cells #[.slice ad l.length cap] 36 (0, 0))) :
  SeqE Tryz.prog (fun W => RdN W ad l) 120 #[.pointer (some ⟨b, 0, none⟩)] (fun x : N3 => #[nt x.1 x.2.1 x.2.2]) bx 0 l w := by
 intro ll J Jx W hW hJ hJx hE hY h0
 have hb0 : W.heap[b]? = some (.cells #[.slice ad l.length cap] 36 (0, 0)) := (hW.block _ (zla hs)).trans hs
 have c0 := zca hb0 0
 simp at c0
 obtain ⟨n, hn⟩ : ∃ n, l.length = n := ⟨_, rfl⟩
 have HN : Hid (l.length = n) := hn
 rw [hn] at c0 hl
 clear hn
 refine callsIn_of_wp Tryz.func120 rfl trivial ?_ rfl
 simp only [Tryz.ntmps120, List.size_toArray, List.length_cons, List.length_nil, Nat.reduceAdd, Nat.reduceSub, Array.replicate_succ, Array.replicate_zero, List.push_toArray, List.append_toArray, List.nil_append, List.cons_append]
 gi_wp2
 gi_loopw [7] (fun c wz => ∃ k : Nat, c = .int .i64 k ∧ k ≤ n ∧ J (l.take k) wz ∧ W.heap.size ≤ wz.heap.size) (fun c _ => n - vnat c)
 case atStart => exact ⟨0, rfl, Nat.zero_le _, h0, Nat.le_refl _⟩
 case round =>
  obtain ⟨k, rfl, hk, hj, hsz⟩ := hrel
  by_cases hkl : k < n
  · have hki : (k : Int) < (n : Int) := by omega
    obtain ⟨⟨o, t, q⟩, hx⟩ : ∃ x, l[k]? = some x := ⟨_, List.getElem?_eq_getElem (by rw [HN.out]; exact hkl)⟩
    obtain ⟨gt, off, rfl, hgl, hnt⟩ := hE _ _ hj (by intro e; rw [e] at hx; simp at hx)
    obtain ⟨e0, e1, e2⟩ := hnt k _ hx
    dsimp only at e0 e1 e2
    have HT : Hid (l.take (k + 1) = l.take k ++ [(o, t, q)]) := by
      show _ = _
      rw [List.take_add_one, hx]
      rfl
    have hj1 : J (l.take k) (wr.alloc (.cells #[.int .i64 o, .int .i64 t, .int .i64 q] 65)) := hJ.alloc _ hj
    have hyl := hY _ (o, t, q) _ hj1 (by simp; omega) (by rw [← HT.out]; exact List.take_prefix _ _)
    obtain ⟨fn, tmps, assign, body, hy, hR⟩ := hyl
    unfold nt at hy
    clear hY hx hE hnt
    gi_wp2
    refine ⟨rfl, hR.mono ?_⟩
    rintro e' W3 ⟨hkp, (⟨rfl, hj3⟩ | ⟨rfl, hjx⟩)⟩
    · have hsz3 := hkp.size
      gi_wp2
      go_roundw
      case rel => exact ⟨k + 1, by simp, by omega, by rw [HT.out]; exact hj3, by simp at hsz3; omega⟩
      case measure => simp [vnat]; omega
    · gi_wp2
      refine bodyPost_ret (results_none rfl _ _ _) rfl ?_
      exact ⟨⟨_, rfl⟩, .inr ⟨_, by rw [← HT.out]; exact List.take_prefix _ _, hjx⟩⟩
  · have hkk : k = n := by omega
    subst hkk
    rw [List.take_of_length_le (by rw [HN.out]; exact Nat.le_refl _)] at hj
    gi_wp2
    go_end0
    exact ⟨⟨_, rfl⟩, .inl hj⟩
theorem vals_any (w : World) (ad : Option Addr) (n cap : Nat) : Calls Tryz.prog 84 #[.slice ad n cap] w fun e w' => e = .returned (.func (.func 120) #[] #[.pointer (some ⟨w.heap.size, 0, none⟩)]) ∧ w'.heap[w.heap.size]? = some (.cells #[.slice ad n cap] 36 (0, 0)) ∧ Below w.heap.size w w' := by
 go_enter Tryz.func84, Tryz.ntmps84
 go_wp2
 go_ret
 exact ⟨rfl, zna rfl, al1 _ _⟩
theorem pass_any (w : World) (f1 f2 : Nat) (b1 b2 : Array Value) : Calls Tryz.prog 83 #[.func (.func f1) #[] b1, .func (.func f2) #[] b2] w fun e w' => e = .returned (.func (.func 119) #[] #[.pointer (some ⟨w.heap.size, 0, none⟩), .pointer (some ⟨w.heap.size + 1, 0, none⟩)]) ∧ w'.heap[w.heap.size]? = some (.cells #[.func (.func f1) #[] b1] 145 (0, 0)) ∧ w'.heap[w.heap.size + 1]? = some (.cells #[.func (.func f2) #[] b2] 149 (0, 0)) ∧ Below w.heap.size w w' := by
 go_enter Tryz.func83, Tryz.ntmps83
 go_wp2
 go_ret
 exact ⟨rfl, zoa (zna rfl), zna (by simp), al2 _ _ _⟩
end Go.Proofs.YtekjhcnaabpfmaaGreatDoor
namespace Go.Proofs.YtekjhcnaabpfmaaGreatDoor
open Go.RowKit Go.Shelf Go.Lib
attribute [local go_sem] Oper.semAt_some
theorem round_in {F : Fence} {n : Nat} {P : Program} {l : Nat} {f : FuncId} {tmps : Array Value} {assign body : Code} {w : World} {R : Ending → World → Prop} (l2 : Nat) (h : RoundIn F n P l f tmps assign body w R) : RoundIn (F.inRound l2) n P l f tmps assign body w R := h
theorem yield_in {n : Nat} {P : Program} {l : Nat} {args : Array Value} {W : World} {R : Ending → World → Prop} (l2 : Nat) (h : YieldAt Fence.wide 0 P l args W R) : YieldAt (Fence.wide.inRound l2) n P l args W R := by
 obtain ⟨fn, tmps, assign, body, hy, hR⟩ := yield_any (n' := n) h
 exact ⟨fn, tmps, assign, body, hy, round_in l2 hR⟩
theorem SeqE.at {α : Type} {P : Program} {Ext : World → Prop} {g : Nat} {lb : Array Value} {encs : α → Array Value} {bx m : Nat} {xs : List α} {w W : World} (h : SeqE P Ext g lb encs bx m xs w) (hb : Below w.heap.size w W) : SeqE P Ext g lb encs bx m xs W :=
 fun l J Jx W2 h2 => h l J Jx W2 (hb.trans (h2.mono hb.size))
theorem passV_seq {w : World} (xs : List N3) (b1 b2 bi bu bx : Nat) (p : N3 → Bool) (ExtI ExtU : World → Prop)
  (hin : SeqE Tryz.prog ExtI 120 #[.pointer (some ⟨bi, 0, none⟩)] (fun x : N3 => #[nt x.1 x.2.1 x.2.2]) bx 0 xs w)
  (h1 : w.heap[b1]? = some (.cells #[.func (.func 120) #[] #[.pointer (some ⟨bi, 0, none⟩)]] 145 (0, 0)))
  (hbx : bx < w.heap.size)
  (hu : ∀ x ∈ xs, ∀ W, ExtU W → Calls Tryz.prog 80 #[nt x.1 x.2.1 x.2.2, .pointer (some ⟨bu, 0, none⟩)] W fun e w' => e = .returned (.bool (!p x)) ∧ Below W.heap.size W w') :
  SeqE Tryz.prog (fun W => ExtI W ∧ ExtU W ∧ W.heap[b2]? = some (.cells #[.func (.func 80) #[] #[.pointer (some ⟨bu, 0, none⟩)]] 149 (0, 0))) 119 #[.pointer (some ⟨b1, 0, none⟩), .pointer (some ⟨b2, 0, none⟩)] (fun x : N3 => #[nt x.1 x.2.1 x.2.2]) bx 3 (xs.filter p) w := by
 intro ll J Jx W0 hW hJ hJx hE hY h0
 have hu' : Hid (∀ x ∈ xs, ∀ W, ExtU W → Calls Tryz.prog 80 #[nt x.1 x.2.1 x.2.2, .pointer (some ⟨bu, 0, none⟩)] W fun e w' => e = .returned (.bool (!p x)) ∧ Below W.heap.size W w') := hu
 clear hu
 have hb1 := (hW.block _ (zla h1)).trans h1
 have c0 := zca hb1 0
 simp only [List.getElem?_toArray, List.getElem?_cons_zero] at c0
 obtain ⟨W1, hW1⟩ : ∃ W1, W0.alloc (.cells #[.func (.yield ll) #[] #[]] 149) = W1 := ⟨_, rfl⟩
 have hbW1 : Below W0.heap.size W0 W1 := by rw [← hW1]; exact al1 _ _
 have hz1 : W1.heap.size = W0.heap.size + 1 := by rw [← hW1]; simp
 have hB1 : W1.heap[W0.heap.size]? = some (.cells #[.func (.yield ll) #[] #[]] 149 (0, 0)) := by rw [← hW1]; exact zna rfl
 have c1 : W1.cell? ⟨b1, 0, none⟩ = some (.func (.func 120) #[] #[.pointer (some ⟨bi, 0, none⟩)]) := by
  have := zca ((hbW1.block _ (zla hb1)).trans hb1) 0
  simpa using this
 have hj1 : J [] W1 := own_below hJ h0 hbW1
 have hin1 : SeqE Tryz.prog ExtI 120 #[.pointer (some ⟨bi, 0, none⟩)] (fun x : N3 => #[nt x.1 x.2.1 x.2.2]) bx 0 xs W1 := hin.at (hW.trans (hbW1.mono hW.size))
 have hws := hW.size
 have hbx1 : bx < W1.heap.size := by omega
 clear hin h1 h0 hb1
 refine callsIn_of_wp_marks Tryz.func119 rfl trivial ?_ rfl
 simp only [Tryz.ntmps119, List.size_toArray, List.length_cons, List.length_nil, Nat.reduceAdd, Nat.reduceSub, Array.replicate_succ, Array.replicate_zero, List.push_toArray, List.append_toArray, List.nil_append, List.cons_append]
 gi_wp2
 refine wp_rangeE (kb := 0) (gf := 120) (lb := #[.pointer (some ⟨bi, 0, none⟩)]) rfl (enters_of Tryz.func120 (by kernel_rfl) rfl)
  hin1 hbx1 (fun _ => rfl)
  (fun pre W => J (pre.filter p) W ∧ W.heap[W0.heap.size]? = some (.cells #[.func (.yield ll) #[] #[]] 149 (0, 0)))
  (fun c pre W => c = .ret ∧ Jx (pre.filter p) W)
  (fun s X Y row hs hg hr => ⟨hJ _ X Y row hs.1 hg (fun r e => ⟨by have := (hr r e).1; omega, (hr r e).2⟩), (grownBy_keeps_cells hg (fun r q => (hr r q).2) hs.2 rfl).trans hs.2⟩)
  (fun c s X Y row hs hg hr => ⟨hs.1, hJx _ X Y row hs.2 hg (fun r e => ⟨by have := (hr r e).1; omega, (hr r e).2⟩)⟩)
  ⟨hj1, hB1⟩ (fun _ _ h => (hE _ _ h.1).1)
  (fun x a' W => ∃ B, a' = { tmps := #[.func (.yield ll) #[] #[], .pointer (some ⟨b1, 0, none⟩), .pointer (some ⟨b2, 0, none⟩), .pointer (some ⟨W0.heap.size, 0, none⟩), .pointer (some ⟨B, 0, none⟩), .func (.func 120) #[] #[.pointer (some ⟨bi, 0, none⟩)], nt x.1 x.2.1 x.2.2, undef, undef, undef, undef, undef, undef, undef, undef, undef, undef], defers := [] } ∧ NB W B x.1 x.2.1 x.2.2)
  (fun x a' s X Y row hs hg hr => by
   obtain ⟨B, e, hn⟩ := hs
   exact ⟨B, e, (grownBy_keeps_cells hg (fun r q => (hr r q).2) hn rfl).trans hn⟩) ?assign ?body ?done ?stop
 case assign =>
  rintro l2 pre ⟨o, t, k⟩ W K ⟨hj, hbo⟩ hsz hK
  unfold nt
  gi_wp2
  exact hK _ _ (Kept.below (al1 _ _) (by omega) (by omega)) ⟨hJ.alloc _ hj, zoa hbo⟩ ⟨_, rfl, NB.new _ _ _ _⟩
 case body =>
  rintro l2 pre ⟨o, t, k⟩ a' W ⟨hj, hbo⟩ ⟨B, rfl, hn⟩ hsz hpr
  have hmem : (o, t, k) ∈ xs := hpr.mem (by simp)
  have hex := hE _ _ hj
  have hc := hu'.out (o, t, k) hmem W hex.2.1
  have cu : W.cell? ⟨b2, 0, none⟩ = some (.func (.func 80) #[] #[.pointer (some ⟨bu, 0, none⟩)]) := by
   have := zca hex.2.2 0
   simpa using this
  have n0 := hn.c0
  have n1 := hn.c1
  have n2 := hn.c2
  dsimp only at n0 n1 n2 hc
  have hfs := filter_snoc p pre (o, t, k)
  have hpf : (pre ++ [(o, t, k)]).filter p <+: xs.filter p := hpr.filter p
  clear hex
  generalize hPx : p (o, t, k) = b at hc hfs
  unfold nt at hc
  cases b with
  | false =>
   rw [if_neg (by decide)] at hfs
   gi_wp2_with (refine ⟨trivial, rfl, ?_⟩; gi_at_call 80; refine (callsIn_wide.2 hc).mono ?_; rintro e u1 ⟨rfl, hb1⟩)
   refine ⟨fun f e => (by cases e), ?_⟩
   gi_wp2
   refine ⟨Kept.below hb1 (by omega) (by omega), ?_, (hb1.block _ (zla hbo)).trans hbo⟩
   rw [hfs]
   exact own_below hJ hj hb1
  | true =>
   rw [if_pos rfl] at hfs
   rw [hfs] at hpf
   gi_wp2
   refine ⟨trivial, rfl, ?_⟩
   refine (callsIn_wide.2 hc).mono ?_
   rintro e u1 ⟨rfl, hb1⟩
   have hbo1 := (hb1.block _ (zla hbo)).trans hbo
   have cb : u1.cell? ⟨W0.heap.size, 0, none⟩ = some (.func (.yield ll) #[] #[]) := by
     have := zca hbo1 0
     simpa using this
   have hn1 := hn.carry hb1
   have m0 := hn1.c0
   have m1 := hn1.c1
   have m2 := hn1.c2
   have hyl := yield_in (n := 0) l2 (hY _ (o, t, k) u1 (own_below hJ hj hb1) (by have := hb1.size; omega) hpf)
   obtain ⟨fn, tmps, assign, body, hy, hR⟩ := hyl
   unfold nt at hy
   gi_wp2
   refine ⟨rfl, hR.mono ?_⟩
   rintro e' W3 ⟨hkp, hfin⟩
   have hk0 : Kept bx W0.heap.size 3 W u1 := Kept.below hb1 (by omega) (by omega)
   have hkp2 : Kept bx W1.heap.size (0 + 2) W W3 := (hk0.trans hkp).less (by omega) (by omega)
   have hbo3 := (hkp.rng W0.heap.size (by omega) (by omega)).trans hbo1
   rcases hfin with ⟨rfl, hj3⟩ | ⟨rfl, hjx⟩
   · gi_wp2
     refine ⟨hkp2, ?_, hbo3⟩
     rw [hfs]
     exact hj3
   · gi_wp2
     refine ⟨hkp2, rfl, ?_⟩
     rw [hfs]
     exact hjx
 case done =>
  rintro V ⟨hj, hbo⟩ hK
  gi_wp2
  refine ⟨by simp, .inl ⟨_, _, rfl, run_takeDeferred hK, ?_⟩⟩
  refine ⟨.tuple #[], by simp [results, Tryz.results119], ⟨_, rfl⟩, .inl ?_⟩
  exact hJ.putObj _ hj (by omega) hK rfl
 case stop =>
  rintro co pre V hpr ⟨rfl, hjx⟩ hK
  gi_wp2
  refine ⟨by simp, .inl ⟨_, _, rfl, run_takeDeferred hK, ?_⟩⟩
  refine ⟨.tuple #[], by simp [results, Tryz.results119], ⟨_, rfl⟩, .inr ⟨pre.filter p, hpr.filter p, ?_⟩⟩
  exact hJx.putObj _ hjx (by omega) hK rfl
end Go.Proofs.YtekjhcnaabpfmaaGreatDoor
