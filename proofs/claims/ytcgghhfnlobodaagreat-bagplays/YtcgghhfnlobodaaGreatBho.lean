/- The two bags that are played with, while the play goes on. -/
import Derived.Test.YtcgghhfnlobodaaGreatBhn
import Derived.Test.YtcgghhfnlobodaaGreatBgn
import Derived.Laws.Bits128
import Derived.Laws.CopyRow
import Derived.Laws.CopyOwn
namespace Go.Proofs.YtcgghhfnlobodaaGreat
open Go.RowKit Go.Shelf Go.Lib
theorem i64_and1 (n : Int) : bits .and .i64 n 1 = n % 2 := by
  have h1 : (BitVec.ofInt 64 1).toNat = 2 ^ 1 - 1 := by decide
  have key : (BitVec.ofInt 64 n &&& BitVec.ofInt 64 1).toNat = (n % ((2 ^ 64 : Nat) : Int)).toNat % 2 ^ 1 := by
    rw [BitVec.toNat_and, BitVec.toNat_ofInt, h1, Nat.and_two_pow_sub_one_eq_mod]
  show IntKind.i64.wrap ((BitVec.ofInt 64 n &&& BitVec.ofInt 64 1).toNat : Nat) = n % 2
  rw [key, IntKind.wrap_i64]
  omega
/-- A whole variable into the middle of a block that is known whole. -/
theorem run_store_in {P : Program} (w : World) (g o : Nat) (t ty : TypeId) (cur vs : List Value) (hg : w.heap[g]? = some (.cells cur.toArray t (0, 0))) (hi : (P.info? ty).map (·.size) = some vs.length) (hf : o + vs.length ≤ cur.length) (h1 : ∀ v ∈ vs, v.oneCell' = true) :
    (Instr.storeAt ty (.pointer (some ⟨g, o, none⟩)) (.agg vs.toArray)).run P w = .ok () (w.setRow g (splice cur o vs).toArray) := by
  have := run_storeCells_at P g o t vs 0 cur.toArray w hg (by simpa using hf) h1
  cases hq : P.info? ty with
  | none => simp [hq] at hi
  | some i =>
    have hs : vs.length = i.size := by simp [hq] at hi; omega
    simp only [Nat.add_zero] at this
    simp [Instr.storeAt, Instr.sureAddr, storeVar, sizeOf, typeInfo, hq, Value.cells, hs, this, splice]
theorem wpList_store_in {P : Program} {ops : Array Oper} {rest : List Oper} {o : Oper} {a : Act} {w : World} {Q : Exit → Act → World → Prop} (hgd : o.guard = none) (ty : TypeId) (x y : Operand) (ho : o.op = .store ty x y)
    (g off : Nat) (t : TypeId) (cur vs : List Value) (hx : a.eval x = .pointer (some ⟨g, off, none⟩)) (hy : a.eval y = .agg vs.toArray) (hg : w.heap[g]? = some (.cells cur.toArray t (0, 0))) (hi : (P.info? ty).map (·.size) = some vs.length) (hf : off + vs.length ≤ cur.length) (h1 : ∀ v ∈ vs, v.oneCell' = true)
    (h : wpList P ops Q rest (a.put o.dst undef) (w.setRow g (splice cur off vs).toArray)) : wpList P ops Q (o :: rest) a w :=
  wpList_plain hgd fun K hK => by
    unfold Oper.wp execOp
    simp only [ho, hx, hy, Sem.run_bind, run_store_in w g off t ty cur vs hg hi hf h1, Result.andThen_ok]
    exact hK _ _ h
/-- One of the two. -/
def One (σ : Nat → Prop) (base lb off bb p : Nat) (ad adR : Option Addr) (m : Nat) (W : World) : Prop := ∃ cap room last ps l capR av, Sd σ base lb off bb p ad cap room last ps l adR capR av W ∧ 0 ≤ last ∧ last ≤ (m : Int)
/-- Both, seen from the one at 5 q on. -/
structure Pq (σ : Nat → Prop) (w : World) (lb bb m q p : Nat) (ad adR : Option Addr) (p' : Nat) (ad' adR' : Option Addr) (W : World) : Prop where
  a : One σ w.heap.size lb (5 * q) bb p ad adR m W
  b : One σ w.heap.size lb (5 * (1 - q)) bb p' ad' adR' m W
  np : p ≠ p'
  nl : ∀ b, ob ad = some b → ob ad' ≠ some b
  nr : ∀ b, ob adR = some b → ob adR' ≠ some b
  low : Below w.heap.size w W
def PS (w : World) (lb bb m : Nat) (W : World) : Prop := ∃ σ p ad adR p' ad' adR', Pq σ w lb bb m 0 p ad adR p' ad' adR' W
section
variable {σ : Nat → Prop} {w : World} {lb bb m q p p' : Nat} {ad adR ad' adR' : Option Addr} {W V : World}
theorem Pq.turn (h : Pq σ w lb bb m 0 p ad adR p' ad' adR' W) : Pq σ w lb bb m 1 p' ad' adR' p ad adR W := ⟨h.b, h.a, Ne.symm h.np, fun b e e2 => h.nl b e2 e, fun b e e2 => h.nr b e2 e, h.low⟩
theorem Pq.turn1 (h : Pq σ w lb bb m 1 p ad adR p' ad' adR' W) : Pq σ w lb bb m 0 p' ad' adR' p ad adR W := ⟨h.b, h.a, Ne.symm h.np, fun b e e2 => h.nl b e2 e, fun b e e2 => h.nr b e2 e, h.low⟩
theorem PS.at (h : PS w lb bb m W) (hq : q < 2) : ∃ σ p ad adR p' ad' adR', Pq σ w lb bb m q p ad adR p' ad' adR' W := by
  obtain ⟨σ, p, ad, adR, p', ad', adR', h⟩ := h
  rcases (show q = 0 ∨ q = 1 by omega) with rfl | rfl
  · exact ⟨σ, p, ad, adR, p', ad', adR', h⟩
  · exact ⟨σ, p', ad', adR', p, ad, adR, h.turn⟩
theorem Pq.ps (h : Pq σ w lb bb m q p ad adR p' ad' adR' W) (hq : q < 2) : PS w lb bb m W := by
  rcases (show q = 0 ∨ q = 1 by omega) with rfl | rfl
  · exact ⟨σ, p, ad, adR, p', ad', adR', h⟩
  · exact ⟨σ, p', ad', adR', p, ad, adR, h.turn1⟩
theorem One.carry {off : Nat} {base : Nat} (h : One σ base lb off bb p ad adR m W) (hb : Below W.heap.size W V) : One σ base lb off bb p ad adR m V := by
  obtain ⟨cap, room, last, ps, l, capR, av, h1, h2, h3⟩ := h
  exact ⟨cap, room, last, ps, l, capR, av, h1.carry hb, h2, h3⟩
theorem One.kw {off : Nat} {base : Nat} (h : One σ base lb off bb p ad adR m W) (hk : Kw base bb W V) (hn : NK base bb V) : One σ base lb off bb p ad adR m V := by
  obtain ⟨cap, room, last, ps, l, capR, av, h1, h2, h3⟩ := h
  exact ⟨cap, room, last, ps, l, capR, av, h1.kw hk hn, h2, h3⟩
theorem Pq.carry (h : Pq σ w lb bb m q p ad adR p' ad' adR' W) (hb : Below W.heap.size W V) : Pq σ w lb bb m q p ad adR p' ad' adR' V := ⟨h.a.carry hb, h.b.carry hb, h.np, h.nl, h.nr, h.low.trans (hb.mono h.low.size)⟩
theorem Kw.below {base : Nat} (h : Kw base bb W V) (hb : Below base w W) (hbb : base ≤ bb) : Below base w V := hb.trans ⟨h.os, h.tape, h.output, h.size, fun k hk => h.low k hk (by omega)⟩
theorem Pq.kw (h : Pq σ w lb bb m q p ad adR p' ad' adR' W) (hk : Kw w.heap.size bb W V) (hn : NK w.heap.size bb V) : Pq σ w lb bb m q p ad adR p' ad' adR' V := ⟨h.a.kw hk hn, h.b.kw hk hn, h.np, h.nl, h.nr, hk.below h.low hn.lo⟩
theorem Pq.looksA (h : Pq σ w lb bb m q p ad adR p' ad' adR' W) : Calls Tryz.prog 9 #[.pointer (some ⟨lb, 5 * q, none⟩)] W fun e w' => e = .returned (.bool true) ∧ Pq σ w lb bb m q p ad adR p' ad' adR' w' := by
  obtain ⟨cap, room, last, ps, l, capR, av, h1, h2, h3⟩ := h.a
  refine (looks_any h1).mono ?_
  rintro e w' ⟨rfl, hn, hk⟩
  exact ⟨rfl, h.kw hk hn⟩
theorem Pq.step (h : Pq σ w lb bb m q p ad adR p' ad' adR' W) (hq : q < 2) {room last : Int} (hl : last ≤ (m : Int)) (h0 : 0 ≤ last) (hs : StV σ w.heap.size lb (5 * q) bb p ad room last adR W V) : PS w lb bb (m + 1) V := by
  obtain ⟨τ, ad1, cap1, last1, ps1, l1, adR1, capR1, av1, k1, k2, k3, k4, k5, k6⟩ := hs
  obtain ⟨capA, roomA, lastA, psA, lA, capRA, avA, hA, _, _⟩ := h.a
  obtain ⟨cap', room', last', ps', l', capR', av', hB, hb0, hb1⟩ := h.b
  have hB2 := hB.ev k6 k1.nk (by omega) (Ne.symm h.np) (fun b e e2 => h.nl b e2.symm e) (fun b e e2 => h.nr b e2.symm e) (fun b e => hA.sr b e) k3 k1.bg.sg k2
  refine Pq.ps (q := q) ⟨⟨cap1, room, last1, ps1, l1, capR1, av1, k1, by omega, by omega⟩, ⟨cap', room', last', ps', l', capR', av', hB2, hb0, by omega⟩, h.np, fun b e e2 => ?_, fun b e e2 => ?_, k6.below h.low⟩ hq
  · rcases k6.own with z | z
    · rw [z] at e
      exact h.nl b e e2
    · have := z b e
      have := hB.bg.blt e2
      omega
  · rcases k6.ownr with z | z
    · rw [z] at e
      exact h.nr b e e2
    · have := z b e
      obtain ⟨_, c, hc⟩ := hB.rg.blkR e2
      have := lt_at hc
      omega
theorem idx_b2 (B q : Nat) (hq : q < 2) (W : World) : (Instr.indexAt 48 (.pointer (some ⟨B, 0, none⟩)) (.int .i64 (q : Int))).run Tryz.prog W = .ok (.pointer (some ⟨B, 5 * q, none⟩)) W := by
  match q, hq with
  | 0, _ => go_simp
  | 1, _ => go_simp
end
/-- A step of the play, at the one at 5 q on. -/
theorem Pq.go {σ : Nat → Prop} {w : World} {lb bb m q p p' : Nat} {ad adR ad' adR' : Option Addr} {W : World} (h : Pq σ w lb bb m q p ad adR p' ad' adR' W) (hq : q < 2) (hm : m ≤ 1000) (k who iA jA kA : Int) (aD : Option Addr) (nD cD : Nat) (x : List Nat) (hn : x.length = nD) (hx : RdU w w.heap.size aD x) (hcD : aD = none → cD = 0) (hby : Byt x) (hnD : nD ≤ 2000) : Calls Tryz.prog 8 #[.pointer (some ⟨lb, 5 * q, none⟩), .agg #[.int .i64 k, .int .i64 who, .int .i64 iA, .int .i64 jA, .int .i64 kA, .slice aD nD cD]] W fun e w' => e = .returned (.bool true) ∧ PS w lb bb (m + 1) w' := by
  obtain ⟨cap, room, last, ps, l, capR, av, h1, h2, h3⟩ := h.a
  refine (step_any h1 h2 (by omega) k who iA jA kA aD nD cD x hn (fun V hV hz hne => ?_) (fun hne a e => ?_) hcD hby hnD).mono ?_
  · obtain ⟨b, off, e1, e2, e3⟩ := hx hne
    have e4 : V.heap[b]? = w.heap[b]? := (hV b e2).trans (h.low.block b e2)
    exact ⟨b, off, e1, by have := h.low.size; omega, e3.carry e4⟩
  · obtain ⟨b, off, e1, e2, e3⟩ := hx hne
    rw [e1] at e
    cases e
    have := h1.lb0
    exact ⟨by dsimp only; omega, e2⟩
  · rintro e w' ⟨rfl, hs⟩
    exact ⟨rfl, h.step hq h3 h2 hs⟩
end Go.Proofs.YtcgghhfnlobodaaGreat
