/- A node that is up, with all that it has; what turns it alone. -/
import Derived.Test.YtklnfbanfgdgcaaGreatDoorJnJ20
import Derived.Test.YtklnfbanfgdgcaaGreatDoorJnJ24
import Derived.Test.YtklnfbanfgdgcaaGreatDoorJnJ17
import Derived.Test.YtklnfbanfgdgcaaGreatDoorJnJ5
import Derived.Laws.Tables
import Derived.Deep.WholeRow
set_option maxHeartbeats 40000000
set_option maxRecDepth 100000
set_option linter.unusedVariables false
namespace Go.Proofs.YtklnfbanfgdgcaaGreatDoor
open Go.RowKit Go.Shelf Go.Lib
attribute [local go_sem] Oper.semAt_some

/-- Where a node's things lie. -/
structure NA where
  q : Nat
  p : Nat
  bp : Nat
  g : Nat
  tq : Nat
  ta : Option Addr
  tc : Nat
  pa : Option Addr
  pc : Nat
/-- What a node has. -/
structure Ns where
  n : Nat
  f : Nat
  s : Nat
  d : Dst
  b : Bo
  l : List N3
  H : Nat
  t : Tl
  ev : List Ev
structure Nd (W : World) (base x : Nat) (A : NA) (s : Ns) : Prop where
  obj : Nb W x (some ⟨A.q, 0, none⟩) (s.n : Int) (s.f : Int) (s.s : Int) (some ⟨A.bp, 0, none⟩) s.H (some ⟨A.tq, 0, none⟩) (.slice A.pa s.ev.length A.pc)
  bt : Bt W A.q (some ⟨A.p, 0, none⟩) s.b
  dk : Dk W A.p s.d
  bk : Bk W A.bp A.g s.l
  ta : Ta W base A.tq A.ta A.tc s.t
  past : W.ownsRow base 121 15 (.slice A.pa s.ev.length A.pc) s.ev.length (ecs s.ev)
  xb : base ≤ x
  qb : base ≤ A.q
  pb : base ≤ A.p
  kb : base ≤ A.bp
  gb : base ≤ A.g
def nown (x : Nat) (A : NA) (k : Nat) : Prop := k = x ∨ k = A.q ∨ k = A.p ∨ k = A.g ∨ k = A.tq ∨ some k = ob A.ta ∨ some k = ob A.pa
/-- What turns a node alone. -/
structure Mv (x : Nat) (A A' : NA) (W W' : World) : Prop where
  os : W'.os = W.os
  tape : W'.tape = W.tape
  output : W'.output = W.output
  size : W.heap.size ≤ W'.heap.size
  block : ∀ k, k < W.heap.size → ¬ nown x A k → W'.heap[k]? = W.heap[k]?
  own : ∀ k, nown x A' k → nown x A k ∨ W.heap.size ≤ k
  sm : A'.q = A.q ∧ A'.p = A.p ∧ A'.bp = A.bp ∧ A'.g = A.g
theorem nty {W : World} {a b : Nat} {c c' : Array Value} {t t' : TypeId} {z z' : Nat × Nat} (h : W.heap[a]? = some (.cells c t z)) (k : W.heap[b]? = some (.cells c' t' z')) (hn : t ≠ t') : a ≠ b := fun e => by
  rw [e, k] at h
  simp only [Option.some.injEq, Obj.cells.injEq] at h
  exact hn h.2.1.symm
section
variable {x : Nat} {A A' A'' : NA} {W V U : World} {base : Nat} {s : Ns}
theorem Mv.of (x : Nat) (A : NA) (hb : Below W.heap.size W V) : Mv x A A W V := ⟨hb.os, hb.tape, hb.output, hb.size, fun k hk _ => hb.block k hk, fun _ h => .inl h, rfl, rfl, rfl, rfl⟩
theorem Mv.trans (h : Mv x A A' W V) (k : Mv x A' A'' V U) : Mv x A A'' W U :=
  ⟨k.os.trans h.os, k.tape.trans h.tape, k.output.trans h.output, Nat.le_trans h.size k.size,
   fun j hj hn => (k.block j (Nat.lt_of_lt_of_le hj h.size) (fun e => (h.own j e).elim hn (fun g => by omega))).trans (h.block j hj hn),
   fun j hj => (k.own j hj).elim (fun e => h.own j e) (fun e => .inr (Nat.le_trans h.size e)),
   k.sm.1.trans h.sm.1, k.sm.2.1.trans h.sm.2.1, k.sm.2.2.1.trans h.sm.2.2.1, k.sm.2.2.2.trans h.sm.2.2.2⟩
theorem Nd.sz (h : Nd W base x A s) : base ≤ W.heap.size := Nat.le_trans h.xb (Nat.le_of_lt h.obj.lt)
theorem Nd.tyT (h : Nd W base x A s) {k : Nat} (e : ob A.ta = some k) : base ≤ k ∧ ∃ cur, W.heap[k]? = some (.cells cur 51 (0, 0)) := h.ta.blk e
theorem Nd.tyE (h : Nd W base x A s) {k : Nat} (e : ob A.pa = some k) : base ≤ k ∧ ∃ cur, W.heap[k]? = some (.cells cur 121 (0, 0)) := rowBlk h.past k (by rw [ob_eq]; exact e)
theorem Nd.tyown (h : Nd W base x A s) {k : Nat} (e : nown x A k) : base ≤ k := by
  rcases e with e | e | e | e | e | e | e
  · exact e ▸ h.xb
  · exact e ▸ h.qb
  · exact e ▸ h.pb
  · exact e ▸ h.gb
  · exact e ▸ h.ta.qb
  · exact (h.tyT e.symm).1
  · exact (h.tyE e.symm).1
theorem Mv.below (m : Mv x A A' W V) (h : Nd W base x A s) : Below base W V := ⟨m.os, m.tape, m.output, m.size, fun k hk => m.block k (Nat.lt_of_lt_of_le hk h.sz) (fun e => by have := h.tyown e; omega)⟩
theorem Nd.carry (h : Nd W base x A s) (hb : Below W.heap.size W V) : Nd V base x A s :=
  ⟨h.obj.carry hb, h.bt.carry hb, h.dk.carry hb, h.bk.carry hb, h.ta.carry hb, row_below h.past hb, h.xb, h.qb, h.pb, h.kb, h.gb⟩
/-! What stays where a set of blocks turns. -/
variable {σ : Nat → Prop}
theorem Nd.objS (h : Nd W base x A s) (hV : ∀ k, k < W.heap.size → ¬ σ k → V.heap[k]? = W.heap[k]?) (n : ¬ σ x) : Nb V x (some ⟨A.q, 0, none⟩) (s.n : Int) (s.f : Int) (s.s : Int) (some ⟨A.bp, 0, none⟩) s.H (some ⟨A.tq, 0, none⟩) (.slice A.pa s.ev.length A.pc) := (hV _ h.obj.lt n).trans h.obj
theorem Nd.btS (h : Nd W base x A s) (hV : ∀ k, k < W.heap.size → ¬ σ k → V.heap[k]? = W.heap[k]?) (n : ¬ σ A.q) : Bt V A.q (some ⟨A.p, 0, none⟩) s.b := (hV _ (lt_at h.bt) n).trans h.bt
theorem Nd.dkS (h : Nd W base x A s) (hV : ∀ k, k < W.heap.size → ¬ σ k → V.heap[k]? = W.heap[k]?) (n : ¬ σ A.p) : Dk V A.p s.d := ⟨(hV _ h.dk.lt n).trans h.dk.obj, h.dk.len, h.dk.byt⟩
theorem Nd.bkS (h : Nd W base x A s) (hV : ∀ k, k < W.heap.size → ¬ σ k → V.heap[k]? = W.heap[k]?) (n : ¬ σ A.bp) (m : ¬ σ A.g) : Bk V A.bp A.g s.l := ⟨(hV _ h.bk.plt n).trans h.bk.obj, (hV _ h.bk.glt m).trans h.bk.row⟩
theorem Nd.taS (h : Nd W base x A s) (hV : ∀ k, k < W.heap.size → ¬ σ k → V.heap[k]? = W.heap[k]?) (n : ¬ σ A.tq) (m : ∀ k, ob A.ta = some k → ¬ σ k) : Ta V base A.tq A.ta A.tc s.t := ⟨h.ta.qb, (hV _ h.ta.lt n).trans h.ta.obj, row_moved h.ta.row (fun k e => hV k ((row_lt2 h.ta.row k e).2) (m k (by rw [ob_eq] at e; exact e)))⟩
theorem Nd.pastS (h : Nd W base x A s) (hV : ∀ k, k < W.heap.size → ¬ σ k → V.heap[k]? = W.heap[k]?) (m : ∀ k, ob A.pa = some k → ¬ σ k) : V.ownsRow base 121 15 (.slice A.pa s.ev.length A.pc) s.ev.length (ecs s.ev) := row_moved h.past (fun k e => hV k ((row_lt2 h.past k e).2) (m k (by rw [ob_eq] at e; exact e)))
/-! All are apart, by their blocks' types. -/
theorem Nd.xq (h : Nd W base x A s) : x ≠ A.q := nty h.obj h.bt (by decide)
theorem Nd.xp (h : Nd W base x A s) : x ≠ A.p := nty h.obj h.dk.obj (by decide)
theorem Nd.xg (h : Nd W base x A s) : x ≠ A.g := nty h.obj h.bk.row (by decide)
theorem Nd.xk (h : Nd W base x A s) : A.bp ≠ x := nty h.bk.obj h.obj (by decide)
theorem Nd.xt (h : Nd W base x A s) : x ≠ A.tq := nty h.obj h.ta.obj (by decide)
theorem Nd.T {b : Nat} {c : Array Value} {t : TypeId} {z : Nat × Nat} (h : Nd W base x A s) (hb : W.heap[b]? = some (.cells c t z)) (hn : t ≠ 51) : ob A.ta ≠ some b := fun e => by obtain ⟨_, cur, hc⟩ := h.tyT e; exact nty hb hc hn rfl
theorem Nd.E {b : Nat} {c : Array Value} {t : TypeId} {z : Nat × Nat} (h : Nd W base x A s) (hb : W.heap[b]? = some (.cells c t z)) (hn : t ≠ 121) : ob A.pa ≠ some b := fun e => by obtain ⟨_, cur, hc⟩ := h.tyE e; exact nty hb hc hn rfl
theorem Nd.TE (h : Nd W base x A s) {k : Nat} (e : ob A.ta = some k) : ob A.pa ≠ some k := fun e2 => by
  obtain ⟨_, cur, hc⟩ := h.tyT e
  exact h.E hc (by decide) e2
/-! What turns one of them. -/
/-- The list of events. -/
theorem Nd.rem (h : Nd W base x A s) {e : Ev} {ad : Option Addr} {cap : Nat} (hN : Nb V x (some ⟨A.q, 0, none⟩) (s.n : Int) (s.f : Int) (s.s : Int) (some ⟨A.bp, 0, none⟩) s.H (some ⟨A.tq, 0, none⟩) (.slice ad (s.ev.length + 1) cap)) (hr : V.ownsRow base 121 15 (.slice ad (s.ev.length + 1) cap) (s.ev.length + 1) (ecs (s.ev ++ [e]))) (ht : Tn x (ob A.pa) (ob ad) W V) : Nd V base x { A with pa := ad, pc := cap } { s with ev := s.ev ++ [e] } ∧ Mv x A { A with pa := ad, pc := cap } W V := by
  have hV : ∀ k, k < W.heap.size → ¬ (k = x ∨ some k = ob A.pa) → V.heap[k]? = W.heap[k]? := fun k hk hn => ht.block k hk (fun e => hn (.inl e)) (fun e => hn (.inr e))
  have hl : (s.ev ++ [e]).length = s.ev.length + 1 := by simp
  refine ⟨⟨by simp only [hl]; exact hN, h.btS hV (fun e => e.elim h.xq.symm (fun e => h.E h.bt (by decide) e.symm)), h.dkS hV (fun e => e.elim h.xp.symm (fun e => h.E h.dk.obj (by decide) e.symm)), h.bkS hV (fun e => e.elim h.xk (fun e => h.E h.bk.obj (by decide) e.symm)) (fun e => e.elim h.xg.symm (fun e => h.E h.bk.row (by decide) e.symm)), h.taS hV (fun e => e.elim h.xt.symm (fun e => h.E h.ta.obj (by decide) e.symm)) (fun k e1 e => e.elim (fun e => h.T h.obj (by decide) (e ▸ e1)) (fun e => h.TE e1 e.symm)), by simp only [hl]; exact hr, h.xb, h.qb, h.pb, h.kb, h.gb⟩, ?_⟩
  refine ⟨ht.os, ht.tape, ht.output, ht.size, fun k hk hn => hV k hk (fun e => hn (e.elim (fun e => .inl e) (fun e => .inr (.inr (.inr (.inr (.inr (.inr e)))))))), fun k e => ?_, rfl, rfl, rfl, rfl⟩
  rcases e with e | e | e | e | e | e | e
  · exact .inl (.inl e)
  · exact .inl (.inr (.inl e))
  · exact .inl (.inr (.inr (.inl e)))
  · exact .inl (.inr (.inr (.inr (.inl e))))
  · exact .inl (.inr (.inr (.inr (.inr (.inl e)))))
  · exact .inl (.inr (.inr (.inr (.inr (.inr (.inl e))))))
  · rcases ht.own with e2 | e2
    · exact .inl (.inr (.inr (.inr (.inr (.inr (.inr (e.trans e2)))))))
    · exact .inr (e2 k e.symm)
def setHd (W : World) (x M : Nat) : World := (((W.setCell ⟨x, 5, none⟩ (.int .u32 (wd M 0 : Nat))).setCell ⟨x, 6, none⟩ (.int .u32 (wd M 1 : Nat))).setCell ⟨x, 7, none⟩ (.int .u32 (wd M 2 : Nat))).setCell ⟨x, 8, none⟩ (.int .u32 (wd M 3 : Nat))
theorem Nb.putH {vb : Option Addr} {n f s : Int} {vk : Option Addr} {H : Nat} {vt : Option Addr} {vp : Value} (h : Nb W x vb n f s vk H vt vp) (M : Nat) : Nb (setHd W x M) x vb n f s vk M vt vp ∧ TpZ x W (setHd W x M) := by
  have h0 := heap_setCell_same _ _ 5 _ _ (.int .u32 (wd M 0 : Nat)) h
  have h1 := heap_setCell_same _ _ 6 _ _ (.int .u32 (wd M 1 : Nat)) h0
  have h2 := heap_setCell_same _ _ 7 _ _ (.int .u32 (wd M 2 : Nat)) h1
  have h3 := heap_setCell_same _ _ 8 _ _ (.int .u32 (wd M 3 : Nat)) h2
  exact ⟨h3, (((TpZ.set _ _ _ _).trans (TpZ.set _ _ _ _)).trans (TpZ.set _ _ _ _)).trans (TpZ.set _ _ _ _)⟩
end
end Go.Proofs.YtklnfbanfgdgcaaGreatDoor
namespace Go.Proofs.YtklnfbanfgdgcaaGreatDoor
open Go.RowKit Go.Shelf Go.Lib
attribute [local go_sem] Oper.semAt_some
set_option linter.unusedVariables false

def evBg (ta ro : Int) : Ev := ⟨1, 0, 0, ro, ta, 0, 0, 0, 0⟩
theorem evBg_V (ta ro : Int) : evV (evBg ta ro) = .agg #[.int .i64 1, .int .i64 0, .int .i64 0, .int .i64 ro, .int .i64 ta, .int .i64 0, .int .i64 0, .int .u32 0, .int .u32 0, .int .u32 0, .int .u32 0, .int .u32 0, .int .u32 0, .int .u32 0, .int .u32 0] := by simp [evV, ecA, evBg, wd_zero]
/-- What the Boot has when it has told its first round. -/
def dO (d : Dst) : Nx := dNx (dOp d).d (dOp d).b
def dOpen (n f s : Nat) (d : Dst) : Ns := ⟨n, f, s, (dO d).d, (dO d).b, bk0 n s (dO d).b.ta, fullN n, nwT (n : Int) (f : Int) (s : Int) (dO d).x (fullN n), [(evBg (dO d).b.ta (dO d).x).at (s : Int) (dO d).b.r.li]⟩
section
variable {w W : World} {base x : Nat} {A : NA} {s : Ns}
theorem Nb.put4 {vb : Option Addr} {n f s : Int} {vk : Option Addr} {H : Nat} {vt : Option Addr} {vp : Value} (h : Nb W x vb n f s vk H vt vp) (a : Option Addr) : Nb (W.setCell ⟨x, 4, none⟩ (.pointer a)) x vb n f s a H vt vp := by
  have := heap_setCell_same _ _ 4 _ _ (.pointer a) h
  exact this.trans rfl
theorem TpZ.more {V : World} {p b : Nat} (h : TpZ p w W) (ht : TpZ b W V) (hb : w.heap.size ≤ b) : TpZ p w V := ⟨ht.os.trans h.os, ht.tape.trans h.tape, ht.output.trans h.output, Nat.le_trans h.size ht.size, fun k hk hn => (ht.block k (Nat.lt_of_lt_of_le hk h.size) (by omega)).trans (h.block k hk hn)⟩
theorem TpZ.moreB {V : World} {p : Nat} (h : TpZ p w W) (ht : Below W.heap.size W V) : TpZ p w V := h.trans (TpZ.of _ ht)
theorem TpZ.moreQ {V : World} {p q : Nat} (h : TpZ p w W) (ht : Tq p q W V) (hq : w.heap.size ≤ q) : TpZ p w V := ⟨ht.os.trans h.os, ht.tape.trans h.tape, ht.output.trans h.output, Nat.le_trans h.size ht.size, fun k hk hn => (ht.block k (Nat.lt_of_lt_of_le hk h.size) hn (by omega)).trans (h.block k hk hn)⟩
theorem TpZ.moreT {V : World} {p x : Nat} {a : Option Nat} (h : TpZ p w W) (ht : Tn x none a W V) (hx : w.heap.size ≤ x) : TpZ p w V := ⟨ht.os.trans h.os, ht.tape.trans h.tape, ht.output.trans h.output, Nat.le_trans h.size ht.size, fun k hk hn => (ht.block k (Nat.lt_of_lt_of_le hk h.size) (by omega) (by simp)).trans (h.block k hk hn)⟩
theorem Tn.tp {V : World} {x : Nat} {a : Option Nat} (ht : Tn x none a W V) : TpZ x W V := ⟨ht.os, ht.tape, ht.output, ht.size, fun k hk hn => ht.block k hk hn (by simp)⟩
theorem Ta.tpx {b q : Nat} {ad : Option Addr} {cap : Nat} {t : Tl} {bb : Nat} (h : Ta w bb q ad cap t) (ht : TpZ b w W) (hb : b < bb) : Ta W bb q ad cap t := ⟨h.qb, (ht.block _ h.lt (by have := h.qb; omega)).trans h.obj, row_moved h.row (fun k e => ht.block k (row_lt2 h.row k e).2 (by have := (row_lt2 h.row k e).1; omega))⟩
theorem Bk.tpx {p g b : Nat} {l : List N3} (h : Bk w p g l) (ht : TpZ b w W) (h1 : p ≠ b) (h2 : g ≠ b) : Bk W p g l := ⟨(ht.block _ h.plt h1).trans h.obj, (ht.block _ h.glt h2).trans h.row⟩
theorem Bt.tpx {q b : Nat} {P : Option Addr} {y : Bo} (h : Bt w q P y) (ht : TpZ b w W) (h1 : q ≠ b) : Bt W q P y := (ht.block _ (lt_at h) h1).trans h
set_option maxHeartbeats 8000000 in
set_option maxRecDepth 100000 in
theorem nopen_ok {p : Nat} {d : Dst} (hD : Dk w p d) (hpb : base ≤ p) (hf : Fz d) (hw0 : 0 ≤ d.writes) (hw : d.writes ≤ 4611686018427387903) (hop : (dOp d).e = 0) (hk : OkB (dOp d).b) (hf1 : Fz (dOp d).d) (hw1 : 0 ≤ (dOp d).d.writes) (hw2 : (dOp d).d.writes ≤ 4611686018427387903) (hnx : (dO d).e = 0) (hta : 0 ≤ (dO d).b.ta ∧ (dO d).b.ta ≤ 1048576) {n f s : Nat} (hn1 : 1 ≤ n) (hn2 : n ≤ 100) (hfn : f < n) (hsn : s < n) (hnw : nwE (n : Int) (f : Int) (s : Int) (dO d).x (fullN n) = 0) :
    Calls Tryz.prog 9 #[.int .i64 (n : Int), .int .i64 (f : Int), .int .i64 (s : Int), .pointer (some ⟨p, 0, none⟩)] w fun r w' => ∃ x A, r = .returned (.tuple #[.pointer (some ⟨x, 0, none⟩), .int .i64 0]) ∧ Nd w' base x A (dOpen n f s d) ∧ A.p = p ∧ w.heap.size ≤ x ∧ TpZ p w w' := by
  have hbo : Calls Tryz.prog 24 #[.pointer (some ⟨p, 0, none⟩)] w fun e w' => ∃ q, e = .returned (.tuple #[.pointer (some ⟨q, 0, none⟩), .int .i64 0]) ∧ w.heap.size ≤ q ∧ Bt w' q (some ⟨p, 0, none⟩) (dOp d).b ∧ Dk w' p (dOp d).d ∧ TpZ p w w' := (open_any hD hf hw0 hw).mono (by rintro e w' ⟨h1, _, h3, h4⟩; obtain ⟨q, e1, e2, e3⟩ := h1 hop; exact ⟨q, e1, e2, e3, h3, h4⟩)
  have hnxt : ∀ V q, Bt V q (some ⟨p, 0, none⟩) (dOp d).b → Dk V p (dOp d).d → Calls Tryz.prog 25 #[.pointer (some ⟨q, 0, none⟩)] V fun e w' => e = .returned (.tuple #[.int .i64 (dO d).x, .int .i64 0]) ∧ Dk w' p (dO d).d ∧ Bt w' q (some ⟨p, 0, none⟩) (dO d).b ∧ Tq p q V w' := fun V q h1 h2 => by
    have := bnext_any h1 h2 hk hf1 hw1 hw2
    have e2 : (dNx (dOp d).d (dOp d).b).e = 0 := hnx
    rw [e2] at this
    exact this
  have hplt := hD.lt
  have hbsz : base ≤ w.heap.size := by omega
  obtain ⟨S, hS⟩ : ∃ S, dOpen n f s d = S := ⟨_, rfl⟩
  have HS : Hid (dOpen n f s d = S) := hS
  unfold dOpen at hS
  rw [HS.out]
  obtain ⟨R, hR⟩ : ∃ R, (dO d).x = R := ⟨_, rfl⟩
  obtain ⟨b1, hb1⟩ : ∃ b1, (dO d).b = b1 := ⟨_, rfl⟩
  obtain ⟨d1, hd1⟩ : ∃ d1, (dO d).d = d1 := ⟨_, rfl⟩
  rw [hR, hb1, hd1] at hnxt hS
  rw [hR] at hnw
  rw [hb1] at hta
  have HS2 : Hid ((⟨n, f, s, d1, b1, bk0 n s b1.ta, fullN n, nwT (n : Int) (f : Int) (s : Int) R (fullN n), [(evBg b1.ta R).at (s : Int) b1.r.li]⟩ : Ns) = S) := hS
  have hfu := full_any (n : Int)
  have efu : fullV (n : Int) = .tuple #[sv (fullN n), .int .i64 0] := by unfold fullV; rw [if_pos (by omega), Int.toNat_natCast]
  rw [efu] at hfu
  have hF128 : fullN n < S128 := by
    unfold fullN S128
    have : 2 ^ n ≤ 2 ^ 128 := Nat.pow_le_pow_right (by decide) (by omega)
    have := Nat.pos_of_ne_zero (show 2 ^ n ≠ 0 by simp)
    omega
  obtain ⟨FN, hFN⟩ : ∃ FN, fullN n = FN := ⟨_, rfl⟩
  have HFN : Hid (fullN n = FN) := hFN
  rw [hFN] at hfu hnw hF128
  simp only [sv] at hfu
  have hne := fun V => new_any (n : Int) (s : Int) b1.ta V
  have i1 : ¬ ((n : Int) < 1) := by omega
  have i2 : ¬ ((n : Int) > 100) := by omega
  have i3 : ¬ ((f : Int) < 0) := by omega
  have i4 : ¬ ((f : Int) ≥ (n : Int)) := by omega
  have i5 : ¬ ((s : Int) < 0) := by omega
  have i6 : ¬ ((s : Int) ≥ (n : Int)) := by omega
  clear hS hR hb1 hd1 hFN efu hop hk hnx
  go_enter Tryz.func9, Tryz.ntmps9
  go_wp2_with (first
    | (go_at_call 24; (with_reducible refine hbo.mono ?_); rintro r u1 ⟨q, rfl, hq1, hB1, hD1, ht1⟩; have hnx1 := hnxt u1 q hB1 hD1)
    | (go_at_call 25; (with_reducible refine hnx1.mono ?_); rintro r u2 ⟨rfl, hD2, hB2, ht2⟩; obtain ⟨u3, hu3⟩ : ∃ u3, u2.alloc (.cells #[.pointer (some ⟨q, 0, none⟩), .int .i64 (n : Int), .int .i64 (f : Int), .int .i64 (s : Int), .pointer none, .int .u32 0, .int .u32 0, .int .u32 0, .int .u32 0, .pointer none, .slice none 0 0] 112) = u3 := ⟨_, rfl⟩; have b3 : Below u2.heap.size u2 u3 := (by rw [← hu3]; exact al1' _ _); have n3 : Nb u3 u2.heap.size (some ⟨q, 0, none⟩) (n : Int) (f : Int) (s : Int) none 0 none (.slice none 0 0) := (by rw [← hu3]; exact new_at rfl); have c30 := n3.c0; have hB3 := hB2.carry b3; have htg := btag_any hB3; have m3 := n3)
    | (go_at_call 26; (with_reducible refine (hne _).mono ?_); intro r u4 hv4; obtain ⟨bp, g, rfl, hbp, hg4, hbk4⟩ := hv4.ok (by omega) (by omega) (by omega); have b4 := hv4.1; have n4 := n3.carry b4; have c44 := n4.c4; have z44 := thaw_at n4 4; obtain ⟨u5, hu5⟩ : ∃ u5, u4.setCell ⟨u2.heap.size, 4, none⟩ (.pointer (some ⟨bp, 0, none⟩)) = u5 := ⟨_, rfl⟩; have n5 : Nb u5 u2.heap.size (some ⟨q, 0, none⟩) (n : Int) (f : Int) (s : Int) (some ⟨bp, 0, none⟩) 0 none (.slice none 0 0) := (by rw [← hu5]; exact n4.put4 _); have t5 : TpZ u2.heap.size u4 u5 := (by rw [← hu5]; exact TpZ.set _ _ _ _))
    | (go_at_call 28; (with_reducible refine (hfu _).mono ?_); rintro r u6 ⟨rfl, b6⟩; have n6 := n5.carry b6; have z5 := thaw_at n6 5; have z6 := thaw_at n6 6; have z7 := thaw_at n6 7; have z8 := thaw_at n6 8; obtain ⟨y5, y6, y7, y8⟩ := n6.c5; obtain ⟨n7, t7⟩ := n6.putH FN; unfold setHd at n7 t7; obtain ⟨u7, hu7⟩ : ∃ V, (((u6.setCell ⟨u2.heap.size, 5, none⟩ (.int .u32 (wd FN 0 : Nat))).setCell ⟨u2.heap.size, 6, none⟩ (.int .u32 (wd FN 1 : Nat))).setCell ⟨u2.heap.size, 7, none⟩ (.int .u32 (wd FN 2 : Nat))).setCell ⟨u2.heap.size, 8, none⟩ (.int .u32 (wd FN 3 : Nat)) = V := ⟨_, rfl⟩; rw [hu7] at n7 t7; have hbg := begin_any n7 hF128 hnw)
    | (go_at_call 29; (with_reducible refine hbg.mono ?_); rintro r u8 ⟨rfl, tq, ta, tc, n8, hT8, t8⟩; have s9 := n8; have c80 := n8.c0; have hne1 : q ≠ u2.heap.size := (by have := lt_at hB2; omega); have hB8 := (((hB3.carry b4).tpx t5 hne1).carry b6 |>.tpx t7 hne1).tpx t8 hne1; have htg8 := btag_any hB8; have hrm := remember_any (base := w.heap.size) (l := []) n8 hB8 (World.ownsRow_nil _ _ _ _) (by have := ht1.size; have := ht2.size; have := b3.size; have := b4.size; have := t5.size; have := b6.size; have := t7.size; have := t8.size; omega) (by simp) (evBg b1.ta R); rw [evBg_V] at hrm)
    | (have m9 := s9; go_at_call 27; (with_reducible refine htg8.mono ?_); rintro r u ⟨rfl, hu⟩; obtain rfl := hu.symm)
    | (go_at_call 27; (with_reducible refine htg.mono ?_); rintro r u ⟨rfl, hu⟩; obtain rfl := hu.symm)
    | (go_at_call 30; (with_reducible refine hrm.mono ?_); rintro r u10 ⟨rfl, pa, pc, n10, r10, t10⟩))
  go_ret2
  have z1 := ht1.size
  have z2 := ht2.size
  have z3 := b3.size
  have z4 := b4.size
  have z5' := t5.size
  have z6' := b6.size
  have z7' := t7.size
  have z8' := t8.size
  have hx3 : u2.heap.size < u3.heap.size := n3.lt
  have t10' := t10.tp
  have hpx : p ≠ u2.heap.size := by omega
  refine ⟨u2.heap.size, ⟨q, p, bp, g, tq, ta, tc, pa, pc⟩, rfl, ?_, rfl, by omega, ?_⟩
  · rw [← HS2.out]
    refine ⟨?_, hB8.tpx t10' hne1, ?_, ?_, ?_, row_base r10 hbsz, (show base ≤ u2.heap.size by omega), (show base ≤ q by omega), hpb, (show base ≤ bp by omega), (show base ≤ g by omega)⟩
    · simp only [HFN.out]
      exact n10
    · exact (((((hD2.carry b3).carry b4).tp t5 hpx).carry b6).tp t7 hpx |>.tp t8 hpx).tp t10' hpx
    · have e1 : (n : Int).toNat = n := by omega
      have e2 : (s : Int).toNat = s := by omega
      rw [e1, e2] at hbk4
      exact ((((hbk4.tpx t5 (by omega) (by omega)).carry b6).tpx t7 (by omega) (by omega)).tpx t8 (by omega) (by omega)).tpx t10' (by omega) (by omega)
    · have hT := hT8.tpx t10' (by omega)
      simp only [HFN.out]
      exact ⟨by have := hT.qb; omega, hT.obj, row_base hT.row (by omega)⟩
  · exact (((((((ht1.moreQ ht2 hq1).moreB b3).moreB b4).more t5 (by omega)).moreB b6).more t7 (by omega)).more t8 (by omega)).moreT t10 (by omega)
end
end Go.Proofs.YtklnfbanfgdgcaaGreatDoor
namespace Go.Proofs.YtklnfbanfgdgcaaGreatDoor
open Go.RowKit Go.Shelf Go.Lib
set_option linter.unusedVariables false

section
variable {d : Dst} {M : Int}
theorem dSv_fzO {d : Dst} (hf : Fz d) (x : Rec) : Fz (dSv d x).2 := by
  unfold dSv
  split
  · exact hf
  · split
    · exact hf
    · split
      · exact hf
      · exact dW2_fz hf _ _
theorem dSv_wrO {d : Dst} (x : Rec) : d.writes ≤ (dSv d x).2.writes ∧ (dSv d x).2.writes ≤ d.writes + 2 := by
  unfold dSv
  split
  · constructor <;> (dsimp only; omega)
  · split
    · constructor <;> (dsimp only; omega)
    · split
      · constructor <;> (dsimp only; omega)
      · exact dW2_wr _ _
theorem dSv_on {d : Dst} (x : Rec) (ho : d.off = false) (hf : d.fused = false) : (dSv d x).2.off = false ∧ (dSv d x).2.fused = false ∧ ((dSv d x).1 = 0 ∨ (dSv d x).1 = 1 ∨ (dSv d x).1 = 120) := by
  unfold dSv
  split
  · exact ⟨ho, hf, .inr (.inl rfl)⟩
  · split
    · rename_i h
      rw [ho] at h
      cases h
    · split
      · exact ⟨ho, hf, .inr (.inr rfl)⟩
      · rename_i h1 h2
        have hq : (if (nwTZ d).e = 0 then 1 - (nwTZ d).a else 0).toNat < 2 := by
          have := nwT_a d
          split <;> omega
        rw [dW2_ok ho hq (slB_len _ _) (fun q => by rw [hf] at q; cases q)]
        exact ⟨rfl, hf, .inl rfl⟩
/-- Open of a disk with power, without a fuse: what is known of it. -/
structure Opd (d : Dst) : Prop where
  fz : Fz d
  w0 : 0 ≤ d.writes
  wm : d.writes ≤ 4611686018427387903
  fz1 : Fz (dOp d).d
  w1 : 0 ≤ (dOp d).d.writes
  wm1 : (dOp d).d.writes ≤ 4611686018427387903
  off : (dOp d).d.off = false
  okb : (dOp d).e = 0 → OkB (dOp d).b
  nr : (dOp d).e = 0 → ¬ (dOp d).b.ro = 1099511627775 → ¬ (dOp d).b.ro = (dOp d).b.r.ro
  dO : dO d = if (dOp d).b.ro = 1099511627775 then ⟨0, 120, (dOp d).d, (dOp d).b⟩ else if (dOp d).e = 0 then ⟨(dOp d).b.ro + 1, 0, (dOp d).d, ⟨(dOp d).b.r, (dOp d).b.ro + 1, (dOp d).b.ta⟩⟩ else dO d
theorem opd_of (ho : d.off = false) (hf : d.fused = false) (hw : d.writes = 0) : Opd d := by
  have hfz : Fz d := fun q => by rw [hf] at q; cases q
  have s1 := dSv_fzO hfz (nxL (nwTZ d).r)
  have s2 := dSv_wrO (d := d) (nxL (nwTZ d).r)
  have s3 := dSv_on (d := d) (nxL (nwTZ d).r) ho hf
  have hr := nwT_r d
  have h1 := bR_le (x := (nwTZ d).r.ro) (by omega)
  have h2 := bT_le (x := (nwTZ d).r.ta) (by omega)
  have h3 : (nwTZ d).r.ro < 1099511627775 → (nwTZ d).r.ro < bR (nwTZ d).r.ro := fun h => by unfold bR; split <;> omega
  have key : Fz (dOp d).d ∧ 0 ≤ (dOp d).d.writes ∧ (dOp d).d.writes ≤ 2 ∧ (dOp d).d.off = false ∧ ((dOp d).e = 0 → OkB (dOp d).b ∧ ((dOp d).b.ro < 1099511627775 → (dOp d).b.ro < (dOp d).b.r.ro)) := by
    unfold dOp
    split
    · exact ⟨hfz, by dsimp only; omega, by dsimp only; omega, ho, fun e => absurd (show (100 : Int) = 0 from e) (by decide)⟩
    split
    · exact ⟨hfz, by dsimp only; omega, by dsimp only; omega, ho, fun e => absurd (show (120 : Int) = 0 from e) (by decide)⟩
    · rename_i hl
      refine ⟨s1, by dsimp only; omega, by dsimp only; omega, s3.1, fun _ => ⟨⟨⟨?_, ?_⟩, ⟨?_, h1.2⟩, ⟨?_, h2.2⟩, ⟨hr.2.1.1, hr.2.1.2⟩, hr.2.2.1, hr.2.2.2⟩, h3⟩⟩
      · show 0 ≤ (nwTZ d).r.li + 1
        omega
      · show (nwTZ d).r.li + 1 ≤ _
        omega
      · show 0 ≤ bR (nwTZ d).r.ro
        omega
      · show 0 ≤ bT (nwTZ d).r.ta
        omega
  obtain ⟨k1, k2, k3, k4, k5⟩ := key
  refine ⟨hfz, by omega, by omega, k1, k2, by omega, k4, fun e => (k5 e).1, fun e h => by have k6 := (k5 e).1.2.2.2.1; have k7 := (k5 e).2 (by omega); omega, ?_⟩
  by_cases hro : (dOp d).b.ro = 1099511627775
  · rw [if_pos hro]
    show dNx (dOp d).d (dOp d).b = _
    unfold dNx
    rw [if_neg (by rw [k4]; decide), if_pos hro]
  rw [if_neg hro]
  split
  · rename_i he
    have k6 := (k5 he).1
    have k7 := (k5 he).2 (by have := k6.2.2.2.1; omega)
    show dNx (dOp d).d (dOp d).b = _
    unfold dNx
    rw [if_neg (by rw [k4]; decide), if_neg hro, if_neg (by omega)]
  · rfl
end
end Go.Proofs.YtklnfbanfgdgcaaGreatDoor
namespace Go.Proofs.YtklnfbanfgdgcaaGreatDoor
open Go.RowKit Go.Shelf Go.Lib

/-- The cells of a row of bools. -/
def bC (p : Nat → Bool) : Array Value := ((List.range 100).map fun i => Value.bool (p i)).toArray
def HoldsB (w : World) (b : Nat) (p : Nat → Bool) : Prop := w.heap[b]? = some (.cells (bC p) 280)
theorem bC_size (p : Nat → Bool) : (bC p).size = 100 := by simp [bC]
theorem bC_get (p : Nat → Bool) (k : Nat) (h : k < 100) : (bC p)[k]? = some (.bool (p k)) := by simp [bC, h]
theorem bC_set (p : Nat → Bool) (k : Nat) (b : Bool) : (bC p).setIfInBounds k (.bool b) = bC (fun j => if j = k then b else p j) := by
  apply Array.ext_getElem?; intro i
  rw [Array.getElem?_setIfInBounds, bC_size]
  by_cases h : i < 100
  · rw [bC_get _ _ h, bC_get _ _ h]
    by_cases e : k = i
    · subst e; simp [h]
    · have e2 : ¬ i = k := fun c => e c.symm
      simp [e, e2]
  · have h2 : ∀ q, (bC q)[i]? = none := fun q => Array.getElem?_eq_none (by rw [bC_size]; omega)
    rw [h2, h2]
    by_cases e : k = i
    · subst e; simp [h]
    · simp [e]
theorem bC_congr {p q : Nat → Bool} (h : ∀ i, i < 100 → p i = q i) : bC p = bC q := by
  unfold bC
  congr 1
  apply List.map_congr_left
  intro i hi
  rw [h i (List.mem_range.1 hi)]
theorem bC_one (p : Nat → Bool) : (bC p).all (·.oneCell') = true := by
  rw [Array.all_eq_true_iff_forall_mem]
  intro v hv
  simp [bC] at hv
  obtain ⟨i, _, rfl⟩ := hv
  rfl
theorem zeroB : ∀ w, (zeroValue 280).run Tryz.prog w = .ok (.agg (bC (fun _ => false))) w := (zero_of_info (P := Tryz.prog) (n := 100) (by kernel_rfl)).1
theorem sizeB : (Tryz.prog.info? 280).map (·.size) = some 100 := by kernel_rfl
theorem setRow_get {W : World} {b : Nat} {cs cs' : Array Value} {t : TypeId} {z : Nat × Nat} (h : W.heap[b]? = some (.cells cs t z)) : (W.setRow b cs').heap[b]? = some (.cells cs' t z) := by
  simp [World.setRow, Array.getElem?_modify, h]
theorem setRow_otherR {W : World} {b k : Nat} {cs : Array Value} (h : k ≠ b) : (W.setRow b cs).heap[k]? = W.heap[k]? := by
  have h2 : ¬ b = k := fun e => h e.symm
  simp [World.setRow, Array.getElem?_modify, h2]
theorem below_setRowR {n b : Nat} {w W : World} {cs : Array Value} (h : Below n w W) (hn : n ≤ b) : Below n w (W.setRow b cs) :=
  h.trans ⟨rfl, rfl, rfl, by simp [World.setRow], fun k hk => setRow_otherR (by omega)⟩
theorem HoldsB.cell {w : World} {b : Nat} {p : Nat → Bool} (h : HoldsB w b p) (k : Nat) (hk : k < 100) : w.cell? ⟨b, k, none⟩ = some (.bool (p k)) := by
  unfold HoldsB at h
  simp [World.cell?, h, bC_get p k hk]
theorem HoldsB.frozen {w : World} {b : Nat} {p : Nat → Bool} (h : HoldsB w b p) (k : Nat) : w.frozen? ⟨b, k, none⟩ = false := by
  unfold HoldsB at h
  simp [World.frozen?, h]
theorem HoldsB.congr {w : World} {b : Nat} {p q : Nat → Bool} (h : HoldsB w b p) (e : ∀ j, j < 100 → p j = q j) : HoldsB w b q := by
  unfold HoldsB at *
  rw [h, bC_congr e]
theorem HoldsB.set {w : World} {b : Nat} {p : Nat → Bool} (h : HoldsB w b p) (k : Nat) (v : Bool) : HoldsB (w.setCell ⟨b, k, none⟩ (.bool v)) b (fun j => if j = k then v else p j) := by
  unfold HoldsB at *
  have hlt := (Array.getElem?_eq_some_iff.1 h).1
  rw [← bC_set p k v]
  simp [World.setCell, h, Array.getElem?_modify]
theorem HoldsB.row {w : World} {b : Nat} {p : Nat → Bool} (h : HoldsB w b p) (q : Nat → Bool) : HoldsB (w.setRow b (bC q)) b q := setRow_get h
theorem retB {f : Func} {p : Tmp} {R : Ending → World → Prop} {a : Act} {w : World} {b : Nat} {q : Nat → Bool} (hres : f.results = #[.cell p 280]) (hp : a.tmps.getD p undef = .pointer (some ⟨b, 0, none⟩)) (hd : a.defers = []) (h : HoldsB w b q) (hR : R (.returned (.agg (bC q))) w) : bodyPost Tryz.prog f R .ret a w :=
  bodyPost_ret (results_cell_row hres a.tmps w b _ _ (0, 0) _ hp h Tryz.underlying280 rfl (by rw [bC_size]; exact sizeB)) hd hR
theorem shr_bit (x n : Nat) : ((x / 2 ^ n &&& 1 : Nat) == 1) = x.testBit n := by
  rw [Nat.and_one_is_mod, Nat.testBit_eq_decide_div_mod_eq]
  by_cases h : x / 2 ^ n % 2 = 1 <;> simp [h]
theorem mixB (p : Nat → Bool) (k j : Nat) : (if j = k then p k else if j < k then p j else false) = if j < k + 1 then p j else false := by
  by_cases q : j = k
  · subst q; simp
  · by_cases q2 : j < k
    · rw [if_neg q, if_pos q2, if_pos (by omega)]
    · rw [if_neg q, if_neg q2, if_neg (by omega)]
set_option maxHeartbeats 1000000 in
set_option maxRecDepth 100000 in
theorem row_any (N : Nat) (w : World) : Calls Tryz.prog 198 #[sv N] w fun e w' => e = .returned (.agg (bC N.testBit)) ∧ Below w.heap.size w w' := by
  have hz := zeroB
  simp only [sv]
  go_enter Tryz.func198, Tryz.ntmps198
  go_wp2
  clear hz
  go_loopw [4] (fun c wz => ∃ k : Nat, c = .int .i64 k ∧ k ≤ 100 ∧ Holds4 wz w.heap.size (wd N) ∧ HoldsB wz (w.heap.size + 1) (fun _ => false) ∧ HoldsB wz (w.heap.size + 2) (fun j => if j < k then N.testBit j else false) ∧ Below w.heap.size w wz) (fun c _ => 100 - vnat c)
  case atStart => exact ⟨0, rfl, by omega, get_old (get_old (get_new (by simp))), get_old (get_new (by simp)), get_new (by simp), (((Below.refl _ w).alloc (by simp) _).alloc (by simp) _).alloc (by simp; omega) _⟩
  case round =>
    obtain ⟨k, rfl, hk, h1, h2, h3, hb⟩ := hrel
    by_cases hk4 : k < 100
    · have hki : (k : Int) < 100 := by omega
      have hq : k / 32 < 4 := by omega
      have hq' : (k : Int) / 32 < 4 := by omega
      have hc1 := h1.cell (k / 32) hq
      have hc3 := h3.cell k hk4
      have hf3 := h3.frozen k
      have hbit : (bits BinOp.and IntKind.u32 ((wd N (k / 32) : Int) / 2 ^ (k % 32)) 1 == 1) = N.testBit k := by
        have e : (wd N (k / 32) : Int) / 2 ^ (k % 32) = ((wd N (k / 32) / 2 ^ (k % 32) : Nat) : Int) := by simp
        have hl : wd N (k / 32) / 2 ^ (k % 32) < 4294967296 := Nat.lt_of_le_of_lt (Nat.div_le_self _ _) (wd_lt N _)
        rw [e, show (1 : Int) = ((1 : Nat) : Int) from rfl, u32_and_nat _ _ hl (by omega), ← bit_word N k, ← shr_bit]
        by_cases h : wd N (k / 32) / 2 ^ (k % 32) &&& 1 = 1
        · rw [h]; rfl
        · have h2 : ¬ ((wd N (k / 32) / 2 ^ (k % 32) &&& 1 : Nat) : Int) = ((1 : Nat) : Int) := by omega
          rw [beq_eq_false_iff_ne.2 h, beq_eq_false_iff_ne.2 h2]
      go_wp2
      go_roundw
      case rel => exact ⟨k + 1, by simp, by omega, (Below.heap_setCell _ _ _ _ (by simp; omega)).trans h1, (Below.heap_setCell _ _ _ _ (by simp)).trans h2, (h3.set k _).congr (fun j _ => mixB N.testBit k j), hb.setCell (p := ⟨w.heap.size + 1 + 1, k, none⟩) (by simp; omega) _⟩
      case measure => simp only [vnat]; omega
    · have hk5 : k = 100 := by omega
      subst hk5
      have h3' : HoldsB wr (w.heap.size + 2) N.testBit := h3.congr (fun j hj => by simp [hj])
      clear h3
      go_wp2_with (first | (refine wpList_load_row rfl 280 _ rfl (w.heap.size + 1 + 1) rfl _ _ _ _ h3' Tryz.underlying280 rfl (by rw [bC_size]; exact sizeB) ?_) | (refine wpList_store_row rfl 280 _ _ rfl (w.heap.size + 1) (bC N.testBit) rfl rfl _ _ h2 (by rw [bC_size]; exact sizeB) (by rw [bC_size, bC_size]) (bC_one _) ?_))
      exact retB rfl rfl rfl (h2.row _) ⟨rfl, below_setRowR hb (by omega)⟩

def mkN (p : Nat → Bool) : Nat → Nat
  | 0 => 0
  | k + 1 => if p k then mkN p k ||| 2 ^ k else mkN p k
theorem testBit_mkN (p : Nat → Bool) : ∀ k i, (mkN p k).testBit i = (decide (i < k) && p i)
  | 0, i => by simp [mkN]
  | k + 1, i => by
    have ih := testBit_mkN p k i
    by_cases e : i = k
    · subst e
      cases h : p i <;> simp [mkN, h, ih]
    · have e2 : decide (i < k + 1) = decide (i < k) := by simp; omega
      rw [e2]
      cases h : p k
      · simp [mkN, h, ih]
      · rw [mkN, if_pos h, Nat.testBit_or, ih, Nat.testBit_two_pow]
        have e3 : ¬ k = i := fun c => e c.symm
        simp [e3]
theorem mkN_eq {p : Nat → Bool} {X : Nat} (h : ∀ i, X.testBit i = (decide (i < 100) && p i)) : mkN p 100 = X := by
  apply Nat.eq_of_testBit_eq; intro i
  rw [testBit_mkN, h]
theorem pow_bit' (i : Nat) : 2 ^ (i % 32) < 4294967296 := Nat.pow_lt_pow_right (a := 2) (n := 32) (by decide) (Nat.mod_lt _ (by decide))
set_option maxHeartbeats 1000000 in
set_option maxRecDepth 100000 in
theorem make_any (p : Nat → Bool) (w : World) : Calls Tryz.prog 188 #[.agg (bC p)] w fun e w' => e = .returned (sv (mkN p 100)) ∧ Below w.heap.size w w' := by
  have hmx : Tryz.prog.follows .mixedOrders = true := by kernel_rfl
  go_enter Tryz.func188, Tryz.ntmps188
  go_wp2
  go_loopw [4] (fun c wz => ∃ k : Nat, c = .int .i64 k ∧ k ≤ 100 ∧ HoldsB wz w.heap.size p ∧ Holds4 wz (w.heap.size + 1) (fun _ => 0) ∧ Holds4 wz (w.heap.size + 2) (wd (mkN p k)) ∧ Below w.heap.size w wz) (fun c _ => 100 - vnat c)
  case atStart => exact ⟨0, rfl, by omega, get_old (get_old (get_new (by simp))), get_old (get_new (by simp)), (show Holds4 _ _ (fun _ => 0) from get_new (by simp)).congr (fun j _ => by simp [mkN, wd]), (((Below.refl _ w).alloc (by simp) _).alloc (by simp) _).alloc (by simp; omega) _⟩
  case round =>
    obtain ⟨k, rfl, hk, h1, h2, h3, hb⟩ := hrel
    by_cases hk4 : k < 100
    · have hki : (k : Int) < 100 := by omega
      have hq : k / 32 < 4 := by omega
      have hc1 := h1.cell k hk4
      cases hp : p k
      · rw [hp] at hc1
        go_wp2
        go_roundw
        case rel => exact ⟨k + 1, by simp, by omega, h1, h2, by simp only [mkN, hp]; exact h3, hb⟩
        case measure => simp only [vnat]; omega
      · rw [hp] at hc1
        go_wp2
        rename_i Q0 K0 hK
        refine wp_region_any hmx ?_
        refine wpAny_last 11 (fun i__ => ([(.int .i64 (k : Int)), (.int .i64 ((k / 32 : Nat) : Int)), (.int .i64 (k : Int)), (.int .i64 ((k / 32 : Nat) : Int)), (.pointer (some ⟨w.heap.size + 2, k / 32, none⟩)), (.int .u32 ((wd (mkN p k) (k / 32) : Nat) : Int)), (.int .i64 (k : Int)), (.int .i64 ((k % 32 : Nat) : Int)), (.int .u32 ((2 ^ (k % 32) : Nat) : Int)), (.int .u32 ((wd (mkN p k) (k / 32) ||| 2 ^ (k % 32) : Nat) : Int)), (.pointer (some ⟨w.heap.size + 2, k / 32, none⟩)), undef] : List Value).getD i__ undef) (fun W => HoldsB W w.heap.size p ∧ Holds4 W (w.heap.size + 1) (fun _ => 0) ∧ Holds4 W (w.heap.size + 2) (wd (mkN p k)) ∧ Below w.heap.size w W) (fun W => HoldsB W w.heap.size p ∧ Holds4 W (w.heap.size + 1) (fun _ => 0) ∧ Holds4 W (w.heap.size + 2) (wd (mkN p k ||| 2 ^ k)) ∧ Below w.heap.size w W) rfl (by kernel_rfl) (by kernel_rfl) ⟨h1, h2, h3, hb.drew⟩ ?_ ?_  ?_
        · refine (stepsFrom_cons ?_ (stepsFrom_cons ?_ (stepsFrom_cons ?_ (stepsFrom_cons ?_ (stepsFrom_cons ?_ (stepsFrom_cons ?_ (stepsFrom_cons ?_ (stepsFrom_cons ?_ (stepsFrom_cons ?_ (stepsFrom_cons ?_ (stepsFrom_cons ?_ trivial)))))))))))
          · exact step_move rfl trivial _ rfl (by kernel_rfl)
          · exact step_binOp rfl trivial _ _ _ _ _ _ _ rfl rfl rfl (fun w hw => bin_quo64 k 32 (by omega) (by omega))
          · exact step_move rfl trivial _ rfl (by kernel_rfl)
          · exact step_binOp rfl trivial _ _ _ _ _ _ _ rfl rfl rfl (fun w hw => bin_quo64 k 32 (by omega) (by omega))
          · exact step_indexAddr rfl trivial _ _ _ _ _ rfl rfl rfl (fun w hw => idx4 _ _ hq w)
          · exact step_load rfl trivial _ _ _ rfl rfl (fun w hw => load4 w _ _ _ hw.2.2.1 hq)
          · exact step_move rfl trivial _ rfl (by kernel_rfl)
          · exact step_binOp rfl trivial _ _ _ _ _ _ _ rfl rfl rfl (fun w hw => bin_rem64 k 32 (by omega))
          · exact step_binOp rfl trivial _ _ _ _ _ _ _ rfl rfl rfl (fun w hw => bin_shl32 .i64 (k % 32) (by omega))
          · exact step_binOp rfl trivial _ _ _ _ _ _ _ rfl rfl rfl (fun w hw => bin_or32 _ _ (wd_lt _ _) (pow_bit' k))
          · exact step_indexAddr rfl trivial _ _ _ _ _ rfl rfl rfl (fun w hw => idx4 _ _ hq w)
        · intro o ho
          cases ho
          exact step_store rfl trivial rfl _ _ _ _ _ rfl rfl rfl (fun w' hw => by obtain ⟨w2, e1, e2, e3, e4⟩ := store4 w' _ _ _ _ hw.2.2.1 hq; refine ⟨w2, e1, (e4 _ (by omega)).trans hw.1, (e4 _ (by omega)).trans hw.2.1, e2.congr (fun j hj => ?_), hw.2.2.2.trans (e3 _ (by omega))⟩; rw [wd_bit]; split <;> simp_all)
        intro W hW
        first | refine hK _ _ ?_ | refine (‹∀ (a : Act) (w : World), Code.wp Tryz.prog _ _ a w → _›) _ _ ?_ | skip
        simp only [finL, List.getD_cons_zero, List.getD_cons_succ, Nat.zero_add, Nat.reduceAdd, List.setIfInBounds_toArray, List.set_cons_zero, List.set_cons_succ]
        obtain ⟨g1, g2, g3, g4⟩ := hW
        go_wp2
        go_roundw
        case rel => exact ⟨k + 1, by simp, by omega, g1, g2, by simp only [mkN, hp, if_true]; exact g3, g4⟩
        case measure => simp only [vnat]; omega
    · have hk5 : k = 100 := by omega
      subst hk5
      obtain ⟨x0, x1, x2, x3, _⟩ := h3.facts
      obtain ⟨y0, y1, y2, y3, z0, z1, z2, z3⟩ := h2.facts
      have H2 : Hid (Holds4 wr (w.heap.size + 1) (fun _ => 0)) := h2
      clear h3 h2
      go_wp2
      exact ret4 rfl rfl rfl (fin4 H2.out _) ⟨rfl, below4 hb (by omega) _⟩
end Go.Proofs.YtklnfbanfgdgcaaGreatDoor
