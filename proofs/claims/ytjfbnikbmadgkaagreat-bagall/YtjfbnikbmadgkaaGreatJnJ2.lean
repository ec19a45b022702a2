/- The two bags that are played with, while the play goes on. -/
import Derived.Test.YtjfbnikbmadgkaaGreatJnJ1
import Derived.Laws.Bits128
import Derived.Laws.CopyRow
import Derived.Laws.CopyOwn
import Derived.Test.YtjfbnikbmadgkaaGreatRows
import Derived.ProofKit
import Derived.OpenShut
import Derived.ChangeOld
import Derived.ChangeSlices
import Derived.Below
import Derived.Deep.Slices
import Derived.Deep.Strs
namespace Go.Proofs.YtjfbnikbmadgkaaGreat
open Go.RowKit Go.Shelf Go.Lib
theorem i64_and1 (n : Int) : bits .and .i64 n 1 = n % 2 := by
  have h1 : (BitVec.ofInt 64 1).toNat = 2 ^ 1 - 1 := by decide
  have key : (BitVec.ofInt 64 n &&& BitVec.ofInt 64 1).toNat = (n % ((2 ^ 64 : Nat) : Int)).toNat % 2 ^ 1 := by
    rw [BitVec.toNat_and, BitVec.toNat_ofInt, h1, Nat.and_two_pow_sub_one_eq_mod]
  show IntKind.i64.wrap ((BitVec.ofInt 64 n &&& BitVec.ofInt 64 1).toNat : Nat) = n % 2
  rw [key, IntKind.wrap_i64]
  omega
/-- A whole variable into the middle of a block that is known whole. -/
theorem run_store_in {P : Program} (w : World) (g o : Nat) (t ty : TypeId) (cur vs : List Value) (hg : w.heap[g]? = some (.cells cur.toArray t (0, 0))) (hi : (P.info? ty).map (·.size) = some vs.length) (hf : o + vs.length ≤ cur.length) (h1 : ∀ v ∈ vs, v.oneCell' = true) :
    (Instr.storeAt ty (.pointer (some ⟨g, o, none⟩)) (.agg vs.toArray)).run P w = .ok () (w.setRow g (splice cur o vs).toArray) := by
  have := run_storeCells_at P g o t vs 0 cur.toArray w hg (by simpa using hf) h1
  cases hq : P.info? ty with
  | none => simp [hq] at hi
  | some i =>
    have hs : vs.length = i.size := by simp [hq] at hi; omega
    simp only [Nat.add_zero] at this
    simp [Instr.storeAt, Instr.sureAddr, storeVar, sizeOf, typeInfo, hq, Value.cells, hs, this, splice]
theorem wpList_store_in {P : Program} {ops : Array Oper} {rest : List Oper} {o : Oper} {a : Act} {w : World} {Q : Exit → Act → World → Prop} (hgd : o.guard = none) (ty : TypeId) (x y : Operand) (ho : o.op = .store ty x y)
    (g off : Nat) (t : TypeId) (cur vs : List Value) (hx : a.eval x = .pointer (some ⟨g, off, none⟩)) (hy : a.eval y = .agg vs.toArray) (hg : w.heap[g]? = some (.cells cur.toArray t (0, 0))) (hi : (P.info? ty).map (·.size) = some vs.length) (hf : off + vs.length ≤ cur.length) (h1 : ∀ v ∈ vs, v.oneCell' = true)
    (h : wpList P ops Q rest (a.put o.dst undef) (w.setRow g (splice cur off vs).toArray)) : wpList P ops Q (o :: rest) a w :=
  wpList_plain hgd fun K hK => by
    unfold Oper.wp execOp
    simp only [ho, hx, hy, Sem.run_bind, run_store_in w g off t ty cur vs hg hi hf h1, Result.andThen_ok]
    exact hK _ _ h
/-- One of the two. -/
def One (σ : Nat → Prop) (base lb off bb p : Nat) (ad adR : Option Addr) (m : Nat) (W : World) : Prop := ∃ cap room last ps l capR av, Sd σ base lb off bb p ad cap room last ps l adR capR av W ∧ 0 ≤ last ∧ last ≤ (m : Int)
/-- Both, seen from the one at 5 q on. -/
structure Pq (σ : Nat → Prop) (w : World) (lb bb m q p : Nat) (ad adR : Option Addr) (p' : Nat) (ad' adR' : Option Addr) (W : World) : Prop where
  a : One σ w.heap.size lb (5 * q) bb p ad adR m W
  b : One σ w.heap.size lb (5 * (1 - q)) bb p' ad' adR' m W
  np : p ≠ p'
  nl : ∀ b, ob ad = some b → ob ad' ≠ some b
  nr : ∀ b, ob adR = some b → ob adR' ≠ some b
  low : Below w.heap.size w W
def PS (w : World) (lb bb m : Nat) (W : World) : Prop := ∃ σ p ad adR p' ad' adR', Pq σ w lb bb m 0 p ad adR p' ad' adR' W
section
variable {σ : Nat → Prop} {w : World} {lb bb m q p p' : Nat} {ad adR ad' adR' : Option Addr} {W V : World}
theorem Pq.turn (h : Pq σ w lb bb m 0 p ad adR p' ad' adR' W) : Pq σ w lb bb m 1 p' ad' adR' p ad adR W := ⟨h.b, h.a, Ne.symm h.np, fun b e e2 => h.nl b e2 e, fun b e e2 => h.nr b e2 e, h.low⟩
theorem Pq.turn1 (h : Pq σ w lb bb m 1 p ad adR p' ad' adR' W) : Pq σ w lb bb m 0 p' ad' adR' p ad adR W := ⟨h.b, h.a, Ne.symm h.np, fun b e e2 => h.nl b e2 e, fun b e e2 => h.nr b e2 e, h.low⟩
theorem PS.at (h : PS w lb bb m W) (hq : q < 2) : ∃ σ p ad adR p' ad' adR', Pq σ w lb bb m q p ad adR p' ad' adR' W := by
  obtain ⟨σ, p, ad, adR, p', ad', adR', h⟩ := h
  rcases (show q = 0 ∨ q = 1 by omega) with rfl | rfl
  · exact ⟨σ, p, ad, adR, p', ad', adR', h⟩
  · exact ⟨σ, p', ad', adR', p, ad, adR, h.turn⟩
theorem Pq.ps (h : Pq σ w lb bb m q p ad adR p' ad' adR' W) (hq : q < 2) : PS w lb bb m W := by
  rcases (show q = 0 ∨ q = 1 by omega) with rfl | rfl
  · exact ⟨σ, p, ad, adR, p', ad', adR', h⟩
  · exact ⟨σ, p', ad', adR', p, ad, adR, h.turn1⟩
theorem One.carry {off : Nat} {base : Nat} (h : One σ base lb off bb p ad adR m W) (hb : Below W.heap.size W V) : One σ base lb off bb p ad adR m V := by
  obtain ⟨cap, room, last, ps, l, capR, av, h1, h2, h3⟩ := h
  exact ⟨cap, room, last, ps, l, capR, av, h1.carry hb, h2, h3⟩
theorem One.kw {off : Nat} {base : Nat} (h : One σ base lb off bb p ad adR m W) (hk : Kw base bb W V) (hn : NK σ base bb V) : One σ base lb off bb p ad adR m V := by
  obtain ⟨cap, room, last, ps, l, capR, av, h1, h2, h3⟩ := h
  exact ⟨cap, room, last, ps, l, capR, av, h1.kw hk hn, h2, h3⟩
theorem Pq.carry (h : Pq σ w lb bb m q p ad adR p' ad' adR' W) (hb : Below W.heap.size W V) : Pq σ w lb bb m q p ad adR p' ad' adR' V := ⟨h.a.carry hb, h.b.carry hb, h.np, h.nl, h.nr, h.low.trans (hb.mono h.low.size)⟩
theorem Kw.below {base : Nat} (h : Kw base bb W V) (hb : Below base w W) (hbb : base ≤ bb) : Below base w V := hb.trans ⟨h.os, h.tape, h.output, h.size, fun k hk => h.low k hk (by omega)⟩
theorem Pq.kw (h : Pq σ w lb bb m q p ad adR p' ad' adR' W) (hk : Kw w.heap.size bb W V) (hn : NK σ w.heap.size bb V) : Pq σ w lb bb m q p ad adR p' ad' adR' V := ⟨h.a.kw hk hn, h.b.kw hk hn, h.np, h.nl, h.nr, hk.below h.low hn.lo⟩
theorem Pq.looksA (h : Pq σ w lb bb m q p ad adR p' ad' adR' W) : Calls Tryz.prog 8 #[.pointer (some ⟨lb, 5 * q, none⟩)] W fun e w' => e = .returned (.bool true) ∧ Pq σ w lb bb m q p ad adR p' ad' adR' w' := by
  obtain ⟨cap, room, last, ps, l, capR, av, h1, h2, h3⟩ := h.a
  refine (looks_any h1).mono ?_
  rintro e w' ⟨rfl, hn, hk⟩
  exact ⟨rfl, h.kw hk hn⟩
theorem Pq.step (h : Pq σ w lb bb m q p ad adR p' ad' adR' W) (hq : q < 2) {room last : Int} (hl : last ≤ (m : Int)) (h0 : 0 ≤ last) (hs : StV σ w.heap.size lb (5 * q) bb p ad room last adR W V) : PS w lb bb (m + 1) V := by
  obtain ⟨τ, ad1, cap1, last1, ps1, l1, adR1, capR1, av1, k1, k2, k3, k4, k5, k6⟩ := hs
  obtain ⟨capA, roomA, lastA, psA, lA, capRA, avA, hA, _, _⟩ := h.a
  obtain ⟨cap', room', last', ps', l', capR', av', hB, hb0, hb1⟩ := h.b
  have hB2 := hB.ev k6 k1.nk (by omega) (Ne.symm h.np) (fun b e e2 => h.nl b e2.symm e) (fun b e e2 => h.nr b e2.symm e) (fun b e => hA.sr b e) k3 k1.bg.sg k2
  refine Pq.ps (q := q) ⟨⟨cap1, room, last1, ps1, l1, capR1, av1, k1, by omega, by omega⟩, ⟨cap', room', last', ps', l', capR', av', hB2, hb0, by omega⟩, h.np, fun b e e2 => ?_, fun b e e2 => ?_, k6.below h.low⟩ hq
  · rcases k6.own with z | z
    · rw [z] at e
      exact h.nl b e e2
    · have := z b e
      have := hB.bg.blt e2
      omega
  · rcases k6.ownr with z | z
    · rw [z] at e
      exact h.nr b e e2
    · have := z b e
      obtain ⟨_, c, hc⟩ := hB.rg.blkR e2
      have := lt_at hc
      omega
theorem idx_b2 (B q : Nat) (hq : q < 2) (W : World) : (Instr.indexAt 48 (.pointer (some ⟨B, 0, none⟩)) (.int .i64 (q : Int))).run Tryz.prog W = .ok (.pointer (some ⟨B, 5 * q, none⟩)) W := by
  match q, hq with
  | 0, _ => go_simp
  | 1, _ => go_simp
end
/-- A step of the play, at the one at 5 q on. -/
theorem Pq.go {σ : Nat → Prop} {w : World} {lb bb m q p p' : Nat} {ad adR ad' adR' : Option Addr} {W : World} (h : Pq σ w lb bb m q p ad adR p' ad' adR' W) (hq : q < 2) (hm : m ≤ 1000) (k who iA jA kA : Int) (aD : Option Addr) (nD cD : Nat) (x : List Nat) (hn : x.length = nD) (hx : RdU w w.heap.size aD x) (hcD : aD = none → cD = 0) (hby : Byt x) (hnD : nD ≤ 2000) : Calls Tryz.prog 7 #[.pointer (some ⟨lb, 5 * q, none⟩), .agg #[.int .i64 k, .int .i64 who, .int .i64 iA, .int .i64 jA, .int .i64 kA, .slice aD nD cD]] W fun e w' => e = .returned (.bool true) ∧ PS w lb bb (m + 1) w' := by
  obtain ⟨cap, room, last, ps, l, capR, av, h1, h2, h3⟩ := h.a
  refine (step_any h1 h2 (by omega) k who iA jA kA aD nD cD x hn (fun V hV hz hne => ?_) (fun hne a e => ?_) hcD hby hnD).mono ?_
  · obtain ⟨b, off, e1, e2, e3⟩ := hx hne
    have e4 : V.heap[b]? = w.heap[b]? := (hV b e2).trans (h.low.block b e2)
    exact ⟨b, off, e1, by have := h.low.size; omega, e3.carry e4⟩
  · obtain ⟨b, off, e1, e2, e3⟩ := hx hne
    rw [e1] at e
    cases e
    have := h1.lb0
    exact ⟨by dsimp only; omega, e2⟩
  · rintro e w' ⟨rfl, hs⟩
    exact ⟨rfl, h.step hq h3 h2 hs⟩
end Go.Proofs.YtjfbnikbmadgkaaGreat
namespace Go.Proofs.YtjfbnikbmadgkaaGreat
open Go.RowKit Go.Shelf Go.Lib
theorem info_bo : (Tryz.prog.info? 47).map (·.size) = some 5 := by kernel_rfl
theorem bg_new {σ : Nat → Prop} {W : World} {base p : Nat} {room : Int} (h : W.heap[p]? = some (.cells #[.int .i64 room, .int .i64 0, .slice none 0 0] 54 (0, 0))) (hp : base ≤ p) (h0 : 0 ≤ room) (h1 : room ≤ 65536) (hs : ∀ b, σ b → b < W.heap.size) : Bg σ W base p none 0 room 0 [] [] := ⟨hp, h, World.ownsRow_nil _ _ _ _, rfl, (fun k q x h => by simp at h), by simpa using h0, h1, hs⟩
theorem rg_new {W : World} {base lb o : Nat} {room : Int} (c0 : W.cell? ⟨lb, o, none⟩ = some (.slice none 0 0)) (c1 : W.cell? ⟨lb, o + 1, none⟩ = some (.int .i64 0)) (c2 : W.cell? ⟨lb, o + 2, none⟩ = some (.int .i64 room)) (hl : ∃ cur, W.heap[lb]? = some (.cells cur 48 (0, 0))) (h0 : 0 ≤ room) (h1 : room ≤ 65536) : Rg W base lb o none 0 0 room [] [] := ⟨c0, c1, c2, hl, World.ownsRow_nil _ _ _ _, rfl, (fun k x a h => by simp at h), (fun x hx => by cases hx), h1, by simpa using h0⟩
/-- The empty book of lists. -/
def nil24 : Array Value := #[.slice none 0 0, .slice none 0 0, .slice none 0 0, .slice none 0 0, .slice none 0 0, .slice none 0 0, .slice none 0 0, .slice none 0 0, .slice none 0 0, .slice none 0 0, .slice none 0 0, .slice none 0 0, .slice none 0 0, .slice none 0 0, .slice none 0 0, .slice none 0 0, .slice none 0 0, .slice none 0 0, .slice none 0 0, .slice none 0 0, .slice none 0 0, .slice none 0 0, .slice none 0 0, .slice none 0 0]
theorem nil24_get (j : Nat) (hj : j < 24) : nil24[j]? = some (.slice none 0 0) := by
  have e : nil24 = Array.replicate 24 (.slice none 0 0) := rfl
  rw [e, Array.getElem?_replicate, if_pos hj]
def KBn (W : World) (bb : Nat) : Prop := W.heap[bb]? = some (.cells nil24 41 (0, 0))
theorem nk_new {σ : Nat → Prop} {W : World} {base bb : Nat} (h : KBn W bb) (hb : base ≤ bb) : NK σ base bb W := ⟨_, _, [], [], [], _, _, [], [], [], nil24, h, rfl, fun j hj _ _ _ _ => nil24_get j hj, nil24_get 8 (by decide), nil24_get 9 (by decide), nil24_get 18 (by decide), nil24_get 19 (by decide), Kel.Kk.nil, Kel.Kk.nil, hb, (fun _ _ h => by cases h), (fun _ _ h => by cases h), (fun _ _ h => by cases h), (fun _ _ h => by cases h)⟩
theorem PS.low {w W : World} {lb bb m : Nat} (h : PS w lb bb m W) : Below w.heap.size w W := by
  obtain ⟨_, _, _, _, _, _, _, z⟩ := h
  exact z.low
theorem PS.looks0 {w W : World} {lb bb m : Nat} (h : PS w lb bb m W) : Calls Tryz.prog 8 #[.pointer (some ⟨lb, 0, none⟩)] W fun e w' => e = .returned (.bool true) ∧ PS w lb bb m w' := by
  obtain ⟨σ, p, ad, adR, p', ad', adR', hP⟩ := h
  have := hP.looksA
  rw [show 5 * 0 = 0 from rfl] at this
  exact this.mono (by rintro e w' ⟨h1, h2⟩; exact ⟨h1, h2.ps (by decide)⟩)
theorem PS.looks1 {w W : World} {lb bb m : Nat} (h : PS w lb bb m W) : Calls Tryz.prog 8 #[.pointer (some ⟨lb, 5, none⟩)] W fun e w' => e = .returned (.bool true) ∧ PS w lb bb m w' := by
  obtain ⟨σ, p, ad, adR, p', ad', adR', hP⟩ := h
  have := hP.turn.looksA
  rw [show 5 * 1 = 5 from rfl] at this
  exact this.mono (by rintro e w' ⟨h1, h2⟩; exact ⟨h1, h2.ps (by decide)⟩)
theorem PS.apart {w W : World} {lb bb m : Nat} (h : PS w lb bb m W) : Calls Tryz.prog 9 #[.pointer (some ⟨bb, 0, none⟩)] W fun e w' => e = .returned (.bool true) ∧ Below w.heap.size W w' := by
  have hz := h.low.size
  obtain ⟨σ, p, ad, adR, p', ad', adR', hP⟩ := h
  obtain ⟨_, _, _, _, _, _, _, hs, _⟩ := hP.a
  exact napart hs.nk hz
/-- What the rooms' box holds; what is asked of a room. -/
def RmB (W : World) (b : Nat) (x y : Int) : Prop := W.heap[b]? = some (.cells #[.int .i64 x, .int .i64 y] 22 (0, 0))
/-- Made: a bag, empty. -/
def Mk (W : World) (base p : Nat) (room : Int) : Prop := W.heap[p]? = some (.cells #[.int .i64 room, .int .i64 0, .slice none 0 0] 54 (0, 0)) ∧ base ≤ p ∧ 0 ≤ room ∧ room ≤ 65536
theorem Mk.carry {W V : World} {base p : Nat} {room : Int} (h : Mk W base p room) (hb : Below W.heap.size W V) : Mk V base p room := ⟨(hb.block _ (lt_at h.1)).trans h.1, h.2⟩
/-- While both are made. -/
def Lp (w : World) (rb lb bb : Nat) (r1 : Int) (r0 : Int) (k : Nat) (W : World) : Prop := match k with
  | 0 => Below w.heap.size w W ∧ KBn W bb ∧ RmB W rb r0 r1 ∧ W.heap[lb]? = some (.cells [.pointer none, .slice none 0 0, .int .i64 0, .int .i64 0, .pointer none, .pointer none, .slice none 0 0, .int .i64 0, .int .i64 0, .pointer none].toArray 48 (0, 0))
  | 1 => ∃ p room x, Below w.heap.size w W ∧ KBn W bb ∧ RmB W rb x r1 ∧ W.heap[lb]? = some (.cells [.pointer (some ⟨p, 0, none⟩), .slice none 0 0, .int .i64 0, .int .i64 room, .pointer (some ⟨bb, 0, none⟩), .pointer none, .slice none 0 0, .int .i64 0, .int .i64 0, .pointer none].toArray 48 (0, 0)) ∧ Mk W w.heap.size p room
  | _ => PS w lb bb 0 W
theorem Lp.two {w W : World} {lb bb p p' : Nat} {room room' : Int} (hB : Below w.heap.size w W) (hk : KBn W bb) (hl : W.heap[lb]? = some (.cells [.pointer (some ⟨p, 0, none⟩), .slice none 0 0, .int .i64 0, .int .i64 room, .pointer (some ⟨bb, 0, none⟩), .pointer (some ⟨p', 0, none⟩), .slice none 0 0, .int .i64 0, .int .i64 room', .pointer (some ⟨bb, 0, none⟩)].toArray 48 (0, 0))) (h1 : Mk W w.heap.size p room) (h2 : Mk W w.heap.size p' room') (hbb : w.heap.size ≤ bb) (hlb : w.heap.size ≤ lb) (hne : p ≠ p') : PS w lb bb 0 W := by
  have hnk := nk_new (σ := fun _ => False) (base := w.heap.size) hk hbb
  refine ⟨fun _ => False, p, none, none, p', none, none, ⟨0, room, 0, [], [], 0, [], ⟨(cell_at hl 0).trans rfl, (cell_at hl 4).trans rfl, bg_new h1.1 h1.2.1 h1.2.2.1 h1.2.2.2 (fun _ q => q.elim), rg_new ((cell_at hl 1).trans rfl) ((cell_at hl 2).trans rfl) ((cell_at hl 3).trans rfl) ⟨_, hl⟩ h1.2.2.1 h1.2.2.2, hnk, hlb, (fun b e => by cases e)⟩, Int.le_refl _, Int.le_refl _⟩, ⟨0, room', 0, [], [], 0, [], ⟨(cell_at hl 5).trans rfl, (cell_at hl 9).trans rfl, bg_new h2.1 h2.2.1 h2.2.2.1 h2.2.2.2 (fun _ q => q.elim), rg_new ((cell_at hl 6).trans rfl) ((cell_at hl 7).trans rfl) ((cell_at hl 8).trans rfl) ⟨_, hl⟩ h2.2.2.1 h2.2.2.2, hnk, hlb, (fun b e => by cases e)⟩, Int.le_refl _, Int.le_refl _⟩, hne, (fun b e => by cases e), (fun b e => by cases e), hB⟩
theorem put_row {W : World} {lb : Nat} {cur : List Value} {t : TypeId} (cs : Array Value) (h : W.heap[lb]? = some (.cells cur.toArray t (0, 0))) : (W.setRow lb cs).heap[lb]? = some (.cells cs t (0, 0)) ∧ (∀ q, q ≠ lb → (W.setRow lb cs).heap[q]? = W.heap[q]?) ∧ (∀ base, base ≤ lb → Below base W (W.setRow lb cs)) := ⟨setRow_heap _ _ _ _ _ _ h, fun q hq => setRow_other _ _ _ _ hq, fun base h1 => ⟨rfl, rfl, rfl, by simp [World.setRow], fun k hk => setRow_other _ _ _ _ (by omega)⟩⟩
theorem ne_block {W : World} {a b : Nat} {c d : Array Value} {t u : TypeId} {y z : Nat × Nat} (h : W.heap[a]? = some (.cells c t y)) (k : W.heap[b]? = some (.cells d u z)) (ht : t ≠ u) : a ≠ b := fun e => by
  rw [e, k] at h
  simp only [Option.some.injEq, Obj.cells.injEq] at h
  exact ht h.2.1.symm
theorem Lp.one {w W : World} {rb lb bb p : Nat} {r0 r1 x room : Int} (hB : Below w.heap.size w W) (hk : KBn W bb) (hr : RmB W rb x r1) (hl : W.heap[lb]? = some (.cells [.pointer none, .slice none 0 0, .int .i64 0, .int .i64 0, .pointer none, .pointer none, .slice none 0 0, .int .i64 0, .int .i64 0, .pointer none].toArray 48 (0, 0))) (hm : Mk W w.heap.size p room) (hlb : w.heap.size ≤ lb) : Lp w rb lb bb r1 r0 1 (W.setRow lb (splice [.pointer none, .slice none 0 0, .int .i64 0, .int .i64 0, .pointer none, .pointer none, .slice none 0 0, .int .i64 0, .int .i64 0, .pointer none] 0 [.pointer (some ⟨p, 0, none⟩), .slice none 0 0, .int .i64 0, .int .i64 room, .pointer (some ⟨bb, 0, none⟩)]).toArray) := by
  obtain ⟨k1, k2, k3⟩ := put_row (splice [.pointer none, .slice none 0 0, .int .i64 0, .int .i64 0, .pointer none, .pointer none, .slice none 0 0, .int .i64 0, .int .i64 0, .pointer none] 0 [.pointer (some ⟨p, 0, none⟩), .slice none 0 0, .int .i64 0, .int .i64 room, .pointer (some ⟨bb, 0, none⟩)]).toArray hl
  exact ⟨p, room, x, hB.trans (k3 _ hlb), (k2 _ (ne_block hk hl (by decide))).trans hk, (k2 _ (ne_block hr hl (by decide))).trans hr, k1, (k2 _ (ne_block hm.1 hl (by decide))).trans hm.1, hm.2⟩
theorem Lp.two' {w W : World} {rb lb bb p p' : Nat} {r0 r1 room room' : Int} (hB : Below w.heap.size w W) (hk : KBn W bb) (hl : W.heap[lb]? = some (.cells [.pointer (some ⟨p, 0, none⟩), .slice none 0 0, .int .i64 0, .int .i64 room, .pointer (some ⟨bb, 0, none⟩), .pointer none, .slice none 0 0, .int .i64 0, .int .i64 0, .pointer none].toArray 48 (0, 0))) (hm : Mk W w.heap.size p room) (hm' : Mk W w.heap.size p' room') (hlb : w.heap.size ≤ lb) (hbb : w.heap.size ≤ bb) (hne : p ≠ p') : Lp w rb lb bb r1 r0 2 (W.setRow lb (splice [.pointer (some ⟨p, 0, none⟩), .slice none 0 0, .int .i64 0, .int .i64 room, .pointer (some ⟨bb, 0, none⟩), .pointer none, .slice none 0 0, .int .i64 0, .int .i64 0, .pointer none] 5 [.pointer (some ⟨p', 0, none⟩), .slice none 0 0, .int .i64 0, .int .i64 room', .pointer (some ⟨bb, 0, none⟩)]).toArray) := by
  obtain ⟨k1, k2, k3⟩ := put_row (splice [.pointer (some ⟨p, 0, none⟩), .slice none 0 0, .int .i64 0, .int .i64 room, .pointer (some ⟨bb, 0, none⟩), .pointer none, .slice none 0 0, .int .i64 0, .int .i64 0, .pointer none] 5 [.pointer (some ⟨p', 0, none⟩), .slice none 0 0, .int .i64 0, .int .i64 room', .pointer (some ⟨bb, 0, none⟩)]).toArray hl
  exact Lp.two (hB.trans (k3 _ hlb)) ((k2 _ (ne_block hk hl (by decide))).trans hk) k1 ⟨(k2 _ (ne_block hm.1 hl (by decide))).trans hm.1, hm.2⟩ ⟨(k2 _ (ne_block hm'.1 hl (by decide))).trans hm'.1, hm'.2⟩ hbb hlb hne
theorem fld_O1 (W : World) (B o : Nat) : (Instr.fieldAt 57 (.pointer (some ⟨B, o, none⟩)) 1).run Tryz.prog W = .ok (.pointer (some ⟨B, o + 1, none⟩)) W := by go_simp
theorem bin_andI {P : Program} {t : TypeId} {x y : Operand} {w : World} (a b c : Int) (h : bits .and .i64 a b = c) : binRun P .and t x y (.int .i64 a) (.int .i64 b) w = .ok (.int .i64 c) w := by rw [← h]; simp [binRun, go_sem]
/-- A room's box is written. -/
theorem rm_put {W : World} {rb : Nat} {x y : Int} (h : RmB W rb x y) : RmB (W.setCell ⟨rb, 0, none⟩ (.int .i64 0)) rb 0 y ∧ RmB (W.setCell ⟨rb, 1, none⟩ (.int .i64 0)) rb x 0 := ⟨(heap_setCell_same _ _ 0 _ _ _ h).trans rfl, (heap_setCell_same _ _ 1 _ _ _ h).trans rfl⟩
set_option maxHeartbeats 16000000 in
set_option maxRecDepth 100000 in
theorem play_A (r0 r1 : Int) (w : World) (ad1 : Option Addr) (cap1 : Nat) (l1 : List Op6) (w1 : RdO w w.heap.size ad1 l1) (hm150 : ¬ l1.length > 150) : Calls Tryz.prog 4 #[.agg #[.int .i64 r0, .int .i64 r1], .slice ad1 l1.length cap1, .bool true] w fun e w' => e = .returned (.bool true) ∧ Below w.heap.size w w' := by
  have hal := alive_any
  have hmx : Tryz.prog.follows .mixedOrders = true := by kernel_rfl
  have hmi : ¬ (l1.length : Int) > 150 := by omega
  obtain ⟨u0, hu0⟩ : ∃ u0, w.alloc (.cells #[.int .i64 r0, .int .i64 r1] 22) = u0 := ⟨_, rfl⟩
  have hb0 : Below w.heap.size w u0 := by rw [← hu0]; exact al1' _ _
  have hr0 : RmB u0 w.heap.size r0 r1 := by rw [← hu0]; exact new_at rfl
  have hal0 := hal u0
  go_enter Tryz.func4, Tryz.ntmps4
  go_wp2_with (go_at_call 5; (with_reducible refine hal0.mono ?_); rintro e u1 ⟨rfl, hb1⟩; obtain ⟨u2, hu2⟩ : ∃ u2, u1.alloc (.cells #[.slice none 0 0, .slice none 0 0, .slice none 0 0, .slice none 0 0, .slice none 0 0, .slice none 0 0, .slice none 0 0, .slice none 0 0, .slice none 0 0, .slice none 0 0, .slice none 0 0, .slice none 0 0, .slice none 0 0, .slice none 0 0, .slice none 0 0, .slice none 0 0, .slice none 0 0, .slice none 0 0, .slice none 0 0, .slice none 0 0, .slice none 0 0, .slice none 0 0, .slice none 0 0, .slice none 0 0] 41) = u2 := ⟨_, rfl⟩; have hb2 : Below u1.heap.size u1 u2 := (by rw [← hu2]; exact al1' _ _); have hk2 : KBn u2 u1.heap.size := (by rw [← hu2]; exact new_at rfl); obtain ⟨u3, hu3⟩ : ∃ u3, u2.alloc (.cells #[.pointer none, .slice none 0 0, .int .i64 0, .int .i64 0, .pointer none, .pointer none, .slice none 0 0, .int .i64 0, .int .i64 0, .pointer none] 48) = u3 := ⟨_, rfl⟩; have hb3 : Below u2.heap.size u2 u3 := (by rw [← hu3]; exact al1' _ _); have hl3 : u3.heap[u2.heap.size]? = some (.cells [.pointer none, .slice none 0 0, .int .i64 0, .int .i64 0, .pointer none, .pointer none, .slice none 0 0, .int .i64 0, .int .i64 0, .pointer none].toArray 48 (0, 0)) := (by rw [← hu3]; exact new_at rfl); have hk3 : KBn u3 u1.heap.size := (hb3.block _ (lt_at hk2)).trans hk2; have hr3 : RmB u3 w.heap.size r0 r1 := (((bel2 hb1 hb2).trans (hb3.mono (bel2 hb1 hb2).size)).block _ (lt_at hr0)).trans hr0; have hB3 : Below w.heap.size w u3 := bel2 (bel2 (bel2 hb0 hb1) hb2) hb3; have s0 := lt_at hr0; have s1 := hb1.size; have s2 := hb2.size; have s3 := lt_at hl3; have s4 := lt_at hk2)
  go_loopw [9, 10, 11] (fun i _ _ wz => ∃ (k : Nat) (z : Int), i = .int .i64 z ∧ z = (k : Int) ∧ k ≤ 2 ∧ Lp w w.heap.size u2.heap.size u1.heap.size r1 r0 k wz) (fun i _ _ _ => 2 - vnat i)
  case atStart => exact ⟨0, 0, rfl, rfl, by omega, hB3, hk3, hr3, hl3⟩
  case round =>
    obtain ⟨k, z, rfl, hz, hk, hLk⟩ := hrel
    have hk' : k = 0 ∨ k = 1 ∨ k = 2 := by omega
    rcases hk' with rfl | rfl | rfl
    · obtain rfl : z = 0 := hz
      obtain ⟨hBk, hkk, hrk, hlk⟩ := hLk
      have q0 : wr.cell? ⟨w.heap.size, 0, none⟩ = some (.int .i64 r0) := cell_at hrk 0
      by_cases hv : r0 < 0 ∨ 65536 < r0
      · have hN := new_no r0 wr hv
        obtain ⟨u5, hu5⟩ : ∃ u5, wr.alloc (.cells #[.int .i64 0, .int .i64 0, .slice none 0 0] 54) = u5 := ⟨_, rfl⟩
        have hb5 : Below wr.heap.size wr u5 := by rw [← hu5]; exact al1' _ _
        have ho5 : u5.heap[wr.heap.size]? = some (.cells #[.int .i64 0, .int .i64 0, .slice none 0 0] 54 (0, 0)) := by rw [← hu5]; exact new_at rfl
        have hr5 : RmB u5 w.heap.size r0 r1 := (hb5.block _ (lt_at hrk)).trans hrk
        have q05 : u5.cell? ⟨w.heap.size, 0, none⟩ = some (.int .i64 r0) := cell_at hr5 0
        have z05 := thaw_at hr5 0
        obtain ⟨u6, hu6⟩ : ∃ u6, u5.setCell ⟨w.heap.size, 0, none⟩ (.int .i64 0) = u6 := ⟨_, rfl⟩
        have ht6 : ∀ (q : Nat) (c : Array Value) (t : TypeId) (z : Nat × Nat), u5.heap[q]? = some (.cells c t z) → t ≠ 22 → u6.heap[q]? = some (.cells c t z) := fun q c t z hc ht => by
          rw [← hu6]
          have hne : q ≠ w.heap.size := ne_block hc (show u5.heap[w.heap.size]? = _ from hr5) ht
          exact (Below.heap_setCell _ _ _ _ hne).trans hc
        have hr6 : RmB u6 w.heap.size 0 r1 := by rw [← hu6]; exact (rm_put hr5).1
        have q06 : u6.cell? ⟨w.heap.size, 0, none⟩ = some (.int .i64 0) := cell_at hr6 0
        have hl6 := ht6 _ _ _ _ ((hb5.block _ (lt_at hlk)).trans hlk) (by decide)
        have HL6 : Hid (_) := hl6
        have HB6 : Hid (Below w.heap.size w u6) := by rw [← hu6]; exact (hBk.trans (hb5.mono hBk.size)).setCell (p := ⟨w.heap.size, 0, none⟩) (Nat.le_refl _) _
        have HK6 : Hid (KBn u6 u1.heap.size) := ht6 _ _ _ _ ((hb5.block _ (lt_at hkk)).trans hkk) (by decide)
        have HM6 : Hid (Mk u6 w.heap.size wr.heap.size 0) := ⟨ht6 _ _ _ _ ho5 (by decide), hBk.size, by decide, by decide⟩
        have hvv : (decide (r0 < 0) || decide (65536 < r0)) = true := by simpa using hv
        rcases hv with hv | hv
        · go_wp2_with (first | (go_at_call 6; (with_reducible refine hN.mono ?_); rintro e u4 ⟨rfl, hu4⟩; obtain rfl := hu4.symm) | (refine wpList_store_in rfl 47 (.tmp 66) (.tmp 65) rfl u2.heap.size 0 48 [.pointer none, .slice none 0 0, .int .i64 0, .int .i64 0, .pointer none, .pointer none, .slice none 0 0, .int .i64 0, .int .i64 0, .pointer none] [.pointer (some ⟨wr.heap.size, 0, none⟩), .slice none 0 0, .int .i64 0, .int .i64 0, .pointer (some ⟨u1.heap.size, 0, none⟩)] rfl rfl hl6 info_bo (show (0 + 5 : Nat) ≤ 10 from by decide) (by simp [Value.oneCell']) ?_))
          exact ⟨⟨1, 1, rfl, rfl, by omega, Lp.one HB6.out HK6.out hr6 HL6.out HM6.out (by omega)⟩, by simp [vnat]⟩
        · have hv0 : ¬ r0 < 0 := by omega
          have hv1 : r0 > 65536 := hv
          go_wp2_with (first | (go_at_call 6; (with_reducible refine hN.mono ?_); rintro e u4 ⟨rfl, hu4⟩; obtain rfl := hu4.symm) | (refine wpList_store_in rfl 47 (.tmp 66) (.tmp 65) rfl u2.heap.size 0 48 [.pointer none, .slice none 0 0, .int .i64 0, .int .i64 0, .pointer none, .pointer none, .slice none 0 0, .int .i64 0, .int .i64 0, .pointer none] [.pointer (some ⟨wr.heap.size, 0, none⟩), .slice none 0 0, .int .i64 0, .int .i64 0, .pointer (some ⟨u1.heap.size, 0, none⟩)] rfl rfl hl6 info_bo (show (0 + 5 : Nat) ≤ 10 from by decide) (by simp [Value.oneCell']) ?_))
          exact ⟨⟨1, 1, rfl, rfl, by omega, Lp.one HB6.out HK6.out hr6 HL6.out HM6.out (by omega)⟩, by simp [vnat]⟩
      · have v0 : ¬ r0 < 0 := by omega
        have v1 : ¬ r0 > 65536 := by omega
        have hN := new_ok (σ := fun _ => False) r0 wr (by omega) (by omega) (fun _ q => q.elim)
        go_wp2_with (first | (go_at_call 6; (with_reducible refine hN.mono ?_); rintro e u4 ⟨rfl, hB4, hb4⟩; have hl4 := (hb4.block _ (lt_at hlk)).trans hlk; have q04 : u4.cell? ⟨w.heap.size, 0, none⟩ = some (.int .i64 r0) := (hb4.cell (p := ⟨w.heap.size, 0, none⟩) (lt_at hrk)).trans q0) | (refine wpList_store_in rfl 47 (.tmp 66) (.tmp 65) rfl u2.heap.size 0 48 [.pointer none, .slice none 0 0, .int .i64 0, .int .i64 0, .pointer none, .pointer none, .slice none 0 0, .int .i64 0, .int .i64 0, .pointer none] [.pointer (some ⟨wr.heap.size, 0, none⟩), .slice none 0 0, .int .i64 0, .int .i64 r0, .pointer (some ⟨u1.heap.size, 0, none⟩)] rfl rfl hl4 info_bo (show (0 + 5 : Nat) ≤ 10 from by decide) (by simp [Value.oneCell']) ?_))
        exact ⟨⟨1, 1, rfl, rfl, by omega, Lp.one (hBk.trans (hb4.mono hBk.size)) ((hb4.block _ (lt_at hkk)).trans hkk) ((hb4.block _ (lt_at hrk)).trans hrk) hl4 ⟨hB4.obj, hBk.size, by omega, by omega⟩ (by omega)⟩, by simp [vnat]⟩
    · obtain rfl : z = 1 := hz
      obtain ⟨pF, roomF, x, hBk, hkk, hrk, hlk, hmk⟩ := hLk
      have q0 : wr.cell? ⟨w.heap.size, 1, none⟩ = some (.int .i64 r1) := cell_at hrk 1
      by_cases hv : r1 < 0 ∨ 65536 < r1
      · have hN := new_no r1 wr hv
        obtain ⟨u5, hu5⟩ : ∃ u5, wr.alloc (.cells #[.int .i64 0, .int .i64 0, .slice none 0 0] 54) = u5 := ⟨_, rfl⟩
        have hb5 : Below wr.heap.size wr u5 := by rw [← hu5]; exact al1' _ _
        have ho5 : u5.heap[wr.heap.size]? = some (.cells #[.int .i64 0, .int .i64 0, .slice none 0 0] 54 (0, 0)) := by rw [← hu5]; exact new_at rfl
        have hr5 : RmB u5 w.heap.size x r1 := (hb5.block _ (lt_at hrk)).trans hrk
        have q05 : u5.cell? ⟨w.heap.size, 1, none⟩ = some (.int .i64 r1) := cell_at hr5 1
        have z05 := thaw_at hr5 1
        obtain ⟨u6, hu6⟩ : ∃ u6, u5.setCell ⟨w.heap.size, 1, none⟩ (.int .i64 0) = u6 := ⟨_, rfl⟩
        have ht6 : ∀ (q : Nat) (c : Array Value) (t : TypeId) (z : Nat × Nat), u5.heap[q]? = some (.cells c t z) → t ≠ 22 → u6.heap[q]? = some (.cells c t z) := fun q c t z hc ht => by
          rw [← hu6]
          have hne : q ≠ w.heap.size := ne_block hc (show u5.heap[w.heap.size]? = _ from hr5) ht
          exact (Below.heap_setCell _ _ _ _ hne).trans hc
        have hr6 : RmB u6 w.heap.size x 0 := by rw [← hu6]; exact (rm_put hr5).2
        have q06 : u6.cell? ⟨w.heap.size, 1, none⟩ = some (.int .i64 0) := cell_at hr6 1
        have hl6 := ht6 _ _ _ _ ((hb5.block _ (lt_at hlk)).trans hlk) (by decide)
        have HL6 : Hid (_) := hl6
        have HB6 : Hid (Below w.heap.size w u6) := by rw [← hu6]; exact (hBk.trans (hb5.mono hBk.size)).setCell (p := ⟨w.heap.size, 1, none⟩) (Nat.le_refl _) _
        have HK6 : Hid (KBn u6 u1.heap.size) := ht6 _ _ _ _ ((hb5.block _ (lt_at hkk)).trans hkk) (by decide)
        have HM6 : Hid (Mk u6 w.heap.size wr.heap.size 0) := ⟨ht6 _ _ _ _ ho5 (by decide), hBk.size, by decide, by decide⟩
        have HM1 : Hid (Mk u6 w.heap.size pF roomF) := ⟨ht6 _ _ _ _ ((hb5.block _ (lt_at hmk.1)).trans hmk.1) (by decide), hmk.2⟩
        have hvv : (decide (r1 < 0) || decide (65536 < r1)) = true := by simpa using hv
        rcases hv with hv | hv
        · go_wp2_with (first | (go_at_call 6; (with_reducible refine hN.mono ?_); rintro e u4 ⟨rfl, hu4⟩; obtain rfl := hu4.symm) | (refine wpList_store_in rfl 47 (.tmp 66) (.tmp 65) rfl u2.heap.size 5 48 [.pointer (some ⟨pF, 0, none⟩), .slice none 0 0, .int .i64 0, .int .i64 roomF, .pointer (some ⟨u1.heap.size, 0, none⟩), .pointer none, .slice none 0 0, .int .i64 0, .int .i64 0, .pointer none] [.pointer (some ⟨wr.heap.size, 0, none⟩), .slice none 0 0, .int .i64 0, .int .i64 0, .pointer (some ⟨u1.heap.size, 0, none⟩)] rfl rfl hl6 info_bo (show (5 + 5 : Nat) ≤ 10 from by decide) (by simp [Value.oneCell']) ?_))
          exact ⟨⟨2, 2, rfl, rfl, by omega, Lp.two' HB6.out HK6.out HL6.out HM1.out HM6.out (by omega) (by omega) (Nat.ne_of_lt (lt_at hmk.1))⟩, by simp [vnat]⟩
        · have hv0 : ¬ r1 < 0 := by omega
          have hv1 : r1 > 65536 := hv
          go_wp2_with (first | (go_at_call 6; (with_reducible refine hN.mono ?_); rintro e u4 ⟨rfl, hu4⟩; obtain rfl := hu4.symm) | (refine wpList_store_in rfl 47 (.tmp 66) (.tmp 65) rfl u2.heap.size 5 48 [.pointer (some ⟨pF, 0, none⟩), .slice none 0 0, .int .i64 0, .int .i64 roomF, .pointer (some ⟨u1.heap.size, 0, none⟩), .pointer none, .slice none 0 0, .int .i64 0, .int .i64 0, .pointer none] [.pointer (some ⟨wr.heap.size, 0, none⟩), .slice none 0 0, .int .i64 0, .int .i64 0, .pointer (some ⟨u1.heap.size, 0, none⟩)] rfl rfl hl6 info_bo (show (5 + 5 : Nat) ≤ 10 from by decide) (by simp [Value.oneCell']) ?_))
          exact ⟨⟨2, 2, rfl, rfl, by omega, Lp.two' HB6.out HK6.out HL6.out HM1.out HM6.out (by omega) (by omega) (Nat.ne_of_lt (lt_at hmk.1))⟩, by simp [vnat]⟩
      · have v0 : ¬ r1 < 0 := by omega
        have v1 : ¬ r1 > 65536 := by omega
        have hN := new_ok (σ := fun _ => False) r1 wr (by omega) (by omega) (fun _ q => q.elim)
        go_wp2_with (first | (go_at_call 6; (with_reducible refine hN.mono ?_); rintro e u4 ⟨rfl, hB4, hb4⟩; have hl4 := (hb4.block _ (lt_at hlk)).trans hlk; have q04 : u4.cell? ⟨w.heap.size, 1, none⟩ = some (.int .i64 r1) := (hb4.cell (p := ⟨w.heap.size, 1, none⟩) (lt_at hrk)).trans q0) | (refine wpList_store_in rfl 47 (.tmp 66) (.tmp 65) rfl u2.heap.size 5 48 [.pointer (some ⟨pF, 0, none⟩), .slice none 0 0, .int .i64 0, .int .i64 roomF, .pointer (some ⟨u1.heap.size, 0, none⟩), .pointer none, .slice none 0 0, .int .i64 0, .int .i64 0, .pointer none] [.pointer (some ⟨wr.heap.size, 0, none⟩), .slice none 0 0, .int .i64 0, .int .i64 r1, .pointer (some ⟨u1.heap.size, 0, none⟩)] rfl rfl hl4 info_bo (show (5 + 5 : Nat) ≤ 10 from by decide) (by simp [Value.oneCell']) ?_))
        exact ⟨⟨2, 2, rfl, rfl, by omega, Lp.two' (hBk.trans (hb4.mono hBk.size)) ((hb4.block _ (lt_at hkk)).trans hkk) hl4 (hmk.carry hb4) ⟨hB4.obj, hBk.size, by omega, by omega⟩ (by omega) (by omega) (Nat.ne_of_lt (lt_at hmk.1))⟩, by simp [vnat]⟩
    · obtain rfl : z = 2 := hz
      have hPS : PS w u2.heap.size u1.heap.size 0 wr := hLk
      clear hLk hal hal0 hl3 hk3 hk2 hr3 hu0 hu2 hu3
      go_wp2
      go_loopw [12] (fun i wz => ∃ m : Nat, i = .int .i64 (m : Int) ∧ m ≤ l1.length ∧ PS w u2.heap.size u1.heap.size m wz) (fun i _ => l1.length - vnat i)
      case atStart => exact ⟨0, rfl, Nat.zero_le _, hPS⟩
      case round =>
        obtain ⟨m, rfl, hm, hPm⟩ := hrel
        clear hPS
        by_cases hmn : m < l1.length
        · have hmi2 : (m : Int) < (l1.length : Int) := by omega
          obtain ⟨o, ho⟩ : ∃ o, l1[m]? = some o := ⟨_, List.getElem?_eq_getElem hmn⟩
          obtain ⟨bs, offs, a, cc, rfl, hbs, c0, c1, c2, c3, c4, c5, hrx, hby, hcx⟩ := w1 m o ho
          obtain ⟨k, who, iA, jA, kA, dt⟩ := o
          dsimp only at c0 c1 c2 c3 c4 c5 hrx hby hcx
          obtain ⟨q, hq2, hqe⟩ : ∃ q : Nat, q < 2 ∧ who % 2 = (q : Int) := ⟨(who % 2).toNat, by omega, by omega⟩
          have hand : bits .and .i64 who 1 = (q : Int) := (i64_and1 who).trans hqe
          obtain ⟨σ, p, ad, adR, p', ad', adR', hP⟩ := hPm.at hq2
          have hBm := hP.low
          obtain ⟨nd, hn⟩ : ∃ nd, dt.length = nd := ⟨_, rfl⟩
          rw [hn] at c5
          have HNX : Hid (dt.length = nd) := hn
          have e5 := (hBm.cell (p := ⟨bs, offs + m * 6 + 5, none⟩) hbs).trans c5
          have hix := idx_O bs offs l1.length cap1 m hmn
          have hf5 := fld_O
          have HCE : Hid (∀ V, Below w.heap.size w V → V.cell? ⟨bs, offs + m * 6, none⟩ = some (.int .i64 k) ∧ V.cell? ⟨bs, offs + m * 6 + 1, none⟩ = some (.int .i64 who) ∧ V.cell? ⟨bs, offs + m * 6 + 2, none⟩ = some (.int .i64 iA) ∧ V.cell? ⟨bs, offs + m * 6 + 3, none⟩ = some (.int .i64 jA) ∧ V.cell? ⟨bs, offs + m * 6 + 4, none⟩ = some (.int .i64 kA) ∧ V.cell? ⟨bs, offs + m * 6 + 5, none⟩ = some (.slice a nd cc)) := fun V hV => ⟨(hV.cell (p := ⟨bs, _, none⟩) hbs).trans c0, (hV.cell (p := ⟨bs, _, none⟩) hbs).trans c1, (hV.cell (p := ⟨bs, _, none⟩) hbs).trans c2, (hV.cell (p := ⟨bs, _, none⟩) hbs).trans c3, (hV.cell (p := ⟨bs, _, none⟩) hbs).trans c4, (hV.cell (p := ⟨bs, _, none⟩) hbs).trans c5⟩
          clear c0 c1 c2 c3 c4 c5 ho hqe hPm hn
          by_cases hd3 : nd ≤ 2000
          case neg =>
            have hdi : (nd : Int) > 2000 := by omega
            go_wp2
            go_ret
            exact ⟨rfl, hBm⟩
          have hdi : ¬ (nd : Int) > 2000 := by omega
          have HGO : Hid (∀ V, Pq σ w u2.heap.size u1.heap.size m q p ad adR p' ad' adR' V → Calls Tryz.prog 7 #[.pointer (some ⟨u2.heap.size, 5 * q, none⟩), .agg #[.int .i64 k, .int .i64 who, .int .i64 iA, .int .i64 jA, .int .i64 kA, .slice a nd cc]] V fun e w' => e = .returned (.bool true) ∧ PS w u2.heap.size u1.heap.size (m + 1) w') := fun V hV => hV.go hq2 (by omega) k who iA jA kA a nd cc dt HNX.out hrx hcx hby hd3
          go_wp2
          rename_i Q0 K0 hK
          refine wp_region_any hmx ?_
          refine wpAny_tabG (G := (Unit)) (fun g i__ => ([(.slice (some ⟨bs, offs, none⟩) l1.length cap1), (.int .i64 (m : Int)), (.pointer (some ⟨bs, offs + m * 6, none⟩)), (.pointer (some ⟨bs, offs + m * 6 + 1, none⟩)), (.int .i64 who), (.int .i64 (q : Int)), (.pointer (some ⟨u2.heap.size, 5 * q, none⟩)), (.slice (some ⟨bs, offs, none⟩) l1.length cap1), (.int .i64 (m : Int)), (.pointer (some ⟨bs, offs + m * 6, none⟩)), (.agg #[.int .i64 k, .int .i64 who, .int .i64 iA, .int .i64 jA, .int .i64 kA, .slice a nd cc]), (.bool true), (.bool false), (.bool false), (.bool true), (.bool true), (.pointer (some ⟨u2.heap.size, 0, none⟩)), (.bool true), (.bool false), (.bool false), (.pointer (some ⟨u2.heap.size, 5, none⟩)), (.bool true), (.bool false), (.bool false), (.bool false), (.bool false)] : List Value).getD i__ undef) (fun _ d V => (d 11 = false → Pq σ w u2.heap.size u1.heap.size m q p ad adR p' ad' adR' V) ∧ (d 11 = true → PS w u2.heap.size u1.heap.size (m + 1) V) ∧ Below w.heap.size w V) (by kernel_rfl) (()) ⟨fun _ => hP.carry (Below.refl _ _).drew, (fun e => absurd e (by decide)), hBm.drew⟩ ?step1 ?fin1
          case step1 =>
            intro i o ho
            have hi : i < 26 := getElem?_lt ho
            match i, hi, ho with
            | 0, _, ho =>
              cases ho
              refine stepG_of (fun g d hdep => ?_)
              exact step_move rfl trivial _ rfl (by kernel_rfl)
            | 1, _, ho =>
              cases ho
              refine stepG_of (fun g d hdep => ?_)
              exact step_move rfl trivial _ rfl (by kernel_rfl)
            | 2, _, ho =>
              cases ho
              refine stepG_of (fun g d hdep => ?_)
              exact step_indexAddr rfl trivial _ _ _ _ _ rfl rfl rfl (fun v hw => hix v)
            | 3, _, ho =>
              cases ho
              refine stepG_of (fun g d hdep => ?_)
              exact step_fieldAddr rfl trivial _ _ _ _ rfl rfl (fun v hw => fld_O1 v _ _)
            | 4, _, ho =>
              cases ho
              refine stepG_of (fun g d hdep => ?_)
              exact step_load rfl trivial _ _ _ rfl rfl (fun v hw => load_i (HCE.out v hw.2.2).2.1)
            | 5, _, ho =>
              cases ho
              refine stepG_of (fun g d hdep => ?_)
              exact step_binOp rfl trivial _ _ _ _ _ _ _ rfl rfl rfl (fun v hw => bin_andI _ _ _ hand)
            | 6, _, ho =>
              cases ho
              refine stepG_of (fun g d hdep => ?_)
              exact step_indexAddr rfl trivial _ _ _ _ _ rfl rfl rfl (fun v hw => idx_b2 _ q hq2 v)
            | 7, _, ho =>
              cases ho
              refine stepG_of (fun g d hdep => ?_)
              exact step_move rfl trivial _ rfl (by kernel_rfl)
            | 8, _, ho =>
              cases ho
              refine stepG_of (fun g d hdep => ?_)
              exact step_move rfl trivial _ rfl (by kernel_rfl)
            | 9, _, ho =>
              cases ho
              refine stepG_of (fun g d hdep => ?_)
              exact step_indexAddr rfl trivial _ _ _ _ _ rfl rfl rfl (fun v hw => hix v)
            | 10, _, ho =>
              cases ho
              refine stepG_of (fun g d hdep => ?_)
              exact step_load rfl trivial _ _ _ rfl rfl (fun v hw => load_O (HCE.out v hw.2.2).1 (HCE.out v hw.2.2).2.1 (HCE.out v hw.2.2).2.2.1 (HCE.out v hw.2.2).2.2.2.1 (HCE.out v hw.2.2).2.2.2.2.1 (HCE.out v hw.2.2).2.2.2.2.2)
            | 11, _, ho =>
              cases ho
              exact stepG_ofCB (fun g d hun hdep hcl => step_call rfl trivial 7 _ _ [(.pointer (some ⟨u2.heap.size, 5 * q, none⟩)), (.agg #[.int .i64 k, .int .i64 who, .int .i64 iA, .int .i64 jA, .int .i64 kA, .slice a nd cc])] rfl (by kernel_rfl) (enters_of Tryz.func7 (by kernel_rfl) rfl) (fun V hw => (HGO.out V (hw.1 hun)).mono (by rintro e w' ⟨rfl, hs⟩; refine ⟨rfl, ?_⟩; show (true = false → _) ∧ (true = true → PS w u2.heap.size u1.heap.size (m + 1) w') ∧ Below w.heap.size w w'; exact ⟨(fun e => by cases e), fun _ => hs, (by obtain ⟨_, _, _, _, _, _, _, z⟩ := hs; exact z.low)⟩)))
            | 12, _, ho =>
              cases ho
              refine stepG_of (fun g d hdep => ?_)
              exact step_unOp rfl trivial _ _ _ _ rfl rfl (fun v hw => un_not true v)
            | 13, _, ho =>
              cases ho
              refine stepG_of (fun g d hdep => ?_)
              exact step_move rfl trivial _ rfl (by kernel_rfl)
            | 14, _, ho =>
              cases ho
              refine stepG_of (fun g d hdep => ?_)
              exact step_move rfl (by exact ⟨_, rfl, by kernel_rfl⟩) _ rfl (by kernel_rfl)
            | 15, _, ho =>
              cases ho
              refine stepG_of (fun g d hdep => ?_)
              exact step_move rfl (by exact ⟨_, rfl, by kernel_rfl⟩) _ rfl (by kernel_rfl)
            | 16, _, ho =>
              cases ho
              refine stepG_of (fun g d hdep => ?_)
              exact step_indexAddr rfl (by exact ⟨_, rfl, by kernel_rfl⟩) _ _ _ _ _ rfl rfl rfl (fun v hw => idx_b2 _ 0 (by decide) v)
            | 17, _, ho =>
              cases ho
              exact stepG_ofCB (fun g d hun hdep hcl => step_call rfl ⟨_, rfl, by kernel_rfl⟩ 8 _ _ [(.pointer (some ⟨u2.heap.size, 0, none⟩))] rfl (by kernel_rfl) (enters_of Tryz.func8 (by kernel_rfl) rfl) (fun V hw => by have h11 : d 11 = true := hcl 13 _ rfl (hcl 15 _ rfl (hdep 15 (by kernel_rfl)) 13 (by kernel_rfl)) 11 (by kernel_rfl); exact ((hw.2.1 h11).looks0).mono (by rintro e w' ⟨rfl, hs⟩; refine ⟨rfl, ?_⟩; show (d 11 = false → _) ∧ (d 11 = true → PS w u2.heap.size u1.heap.size (m + 1) w') ∧ Below w.heap.size w w'; exact ⟨(fun e => by rw [h11] at e; cases e), fun _ => hs, hs.low⟩)))
            | 18, _, ho =>
              cases ho
              refine stepG_of (fun g d hdep => ?_)
              exact step_unOp rfl (by exact ⟨_, rfl, by kernel_rfl⟩) _ _ _ _ rfl rfl (fun v hw => un_not true v)
            | 19, _, ho =>
              cases ho
              refine stepG_of (fun g d hdep => ?_)
              exact step_move rfl (by exact ⟨_, rfl, by kernel_rfl⟩) _ rfl (by kernel_rfl)
            | 20, _, ho =>
              cases ho
              refine stepG_of (fun g d hdep => ?_)
              exact step_indexAddr rfl (by exact ⟨_, rfl, by kernel_rfl⟩) _ _ _ _ _ rfl rfl rfl (fun v hw => idx_b2 _ 1 (by decide) v)
            | 21, _, ho =>
              cases ho
              exact stepG_ofCB (fun g d hun hdep hcl => step_call rfl ⟨_, rfl, by kernel_rfl⟩ 8 _ _ [(.pointer (some ⟨u2.heap.size, 5, none⟩))] rfl (by kernel_rfl) (enters_of Tryz.func8 (by kernel_rfl) rfl) (fun V hw => by have h11 : d 11 = true := hcl 13 _ rfl (hcl 15 _ rfl (hcl 19 _ rfl (hdep 19 (by kernel_rfl)) 15 (by kernel_rfl)) 13 (by kernel_rfl)) 11 (by kernel_rfl); exact ((hw.2.1 h11).looks1).mono (by rintro e w' ⟨rfl, hs⟩; refine ⟨rfl, ?_⟩; show (d 11 = false → _) ∧ (d 11 = true → PS w u2.heap.size u1.heap.size (m + 1) w') ∧ Below w.heap.size w w'; exact ⟨(fun e => by rw [h11] at e; cases e), fun _ => hs, hs.low⟩)))
            | 22, _, ho =>
              cases ho
              refine stepG_of (fun g d hdep => ?_)
              exact step_unOp rfl (by exact ⟨_, rfl, by kernel_rfl⟩) _ _ _ _ rfl rfl (fun v hw => un_not true v)
            | 23, _, ho =>
              cases ho
              refine stepG_of (fun g d hdep => ?_)
              exact step_pick rfl (by exact ⟨_, rfl, by kernel_rfl⟩) _ _ _ false rfl (by kernel_rfl) (by kernel_rfl)
            | 24, _, ho =>
              cases ho
              refine stepG_of (fun g d hdep => ?_)
              exact step_pick rfl (by exact ⟨_, rfl, by kernel_rfl⟩) _ _ _ true rfl (by kernel_rfl) (by kernel_rfl)
            | 25, _, ho =>
              cases ho
              refine stepG_of (fun g d hdep => ?_)
              exact step_pick rfl trivial _ _ _ false rfl (by kernel_rfl) (by kernel_rfl)
          intro g d W hall hW
          first | refine hK _ _ ?_ | refine (‹∀ (a : Act) (w : World), Code.wp Tryz.prog _ _ a w → _›) _ _ ?_ | skip
          simp only [finL, List.getD_cons_zero, List.getD_cons_succ, Nat.zero_add, Nat.reduceAdd, List.setIfInBounds_toArray, List.set_cons_zero, List.set_cons_succ]
          have hfin := hW.2.1 (hall 11 (by decide))
          clear hW hall hK
          go_wp2
          go_roundw
          case rel => exact ⟨m + 1, by simp, by omega, hfin⟩
          case measure => simp [vnat]; omega
        · have hmm : m = l1.length := by omega
          subst hmm
          have hmi2 : ¬ (l1.length : Int) < (l1.length : Int) := by omega
          have hlo := hPm.looks0
          go_wp2_with (first | (go_at_call 9; (with_reducible refine hap.mono ?_); rintro e y3 ⟨rfl, hb3⟩) | (go_at_call 8; have mm := stA; (with_reducible refine hlo2.mono ?_); rintro e y2 ⟨rfl, hP2⟩; have hap := hP2.apart) | (go_at_call 8; (with_reducible refine hlo.mono ?_); rintro e y1 ⟨rfl, hP1⟩; have hlo2 := hP1.looks1; have stA : True := trivial))
          go_ret
          exact ⟨rfl, hP2.low.trans hb3⟩
end Go.Proofs.YtjfbnikbmadgkaaGreat
namespace Go.Proofs.YtjfbnikbmadgkaaGreat
open Go.ChangeShapes Go.WideShapes Go.ChangeAt Go.RowKit

theorem cellsIM : Tryz.prog.cellsOf 3 = 1 := by kernel_rfl
theorem cellsOp : Tryz.prog.cellsOf 57 = 6 := by kernel_rfl
theorem cellsSb : Tryz.prog.cellsOf 55 = 1 := by kernel_rfl
theorem cell_ltM {W : World} {a : Addr} {v : Value} (h : W.cell? a = some v) : a.block < W.heap.size := by
  unfold World.cell? at h
  cases hb : W.heap[a.block]? with
  | none => simp [hb] at h
  | some o => exact (Array.getElem?_eq_some_iff.1 hb).1
theorem wf_u8 {z : Int} (h : (Lit.int .u8 z).wf = true) : 0 ≤ z ∧ z < 256 := by
  simp [Lit.wf] at h
  have h1 : IntKind.u8.min = 0 := rfl
  have h2 : IntKind.u8.max = 255 := rfl
  omega
set_option maxRecDepth 100000 in
/-- Bytes, out of their cell. -/
theorem cs_bytes {H : Type} {enc : TypeId × Value → H} {W : World} {fuel : Nat} {c : Value} {x : DataW H × List MemPlace} (hf : DataW.trod enc Tryz.prog W 0 (fun _ => true) true fuel 55 [c] = some x) : ∃ (ad : Option Addr) (cap : Nat) (l : List Nat), c = .slice ad l.length cap ∧ RdU W W.heap.size ad l ∧ Byt l ∧ (ad = none → cap = 0) := by
  rcases open_ints Tryz.underlying55 Tryz.underlying5 (by kernel_rfl) hf with ⟨hcs, _⟩ | ⟨x, l, c', zs, hcs, _, hl, hm, hz, _, hcell, hwz⟩
  · simp at hcs
    subst hcs
    exact ⟨none, 0, [], rfl, fun h => absurd rfl h, byt_nil, fun _ => rfl⟩
  · simp at hcs
    subst hcs
    have hz' : zs.length = c' := by simpa using hz
    have hlen : ((zs.take l).map Int.toNat).length = l := by simp; omega
    have hzw : ∀ z ∈ zs, 0 ≤ z ∧ z < 256 := fun z hzm => wf_u8 (hwz z hzm)
    refine ⟨some x, c', (zs.take l).map Int.toNat, by rw [hlen], fun hne => ?_, ?_, fun e => by cases e⟩
    · have hpos : 0 < l := by
        cases l with
        | zero => simp at hne
        | succ n => omega
      obtain ⟨b, off, s⟩ := x
      have c0 := hcell 0 (by omega)
      have hs : s = none := by
        have := World.cell?_spot c0
        simpa [Addr.add] using this
      subst hs
      have hadd : ∀ j, (⟨b, off, none⟩ : Addr).add j = ⟨b, off + j, none⟩ := fun j => add_pl b off j
      refine ⟨b, off, rfl, ?_, fun k y hy => ?_⟩
      · have := cell_ltM c0
        rw [hadd] at this
        exact this
      · rw [List.getElem?_map] at hy
        obtain ⟨z, hz1, rfl⟩ := Option.map_eq_some_iff.1 hy
        rw [List.getElem?_take] at hz1
        split at hz1
        · rename_i hk
          have hzm := hzw z (List.mem_of_getElem? hz1)
          have := hcell k (by omega)
          rw [hadd, List.getD_eq_getElem?_getD, hz1] at this
          rw [this, Int.toNat_of_nonneg hzm.1]
          rfl
        · cases hz1
    · intro y hy
      obtain ⟨z, hz1, rfl⟩ := List.mem_map.1 hy
      have := hzw z (List.mem_of_mem_take hz1)
      omega
set_option maxRecDepth 100000 in
theorem one_op {H : Type} {enc : TypeId × Value → H} {W : World} {n : Nat} {cs : List Value} {x : DataW H × List MemPlace} (hl : cs.length = 6) (h : DataW.trod enc Tryz.prog W 0 (fun _ => true) true n 57 cs = some x) : ∃ (o : Op6) (a : Option Addr) (c : Nat), cs = [.int .i64 o.1, .int .i64 o.2.1, .int .i64 o.2.2.1, .int .i64 o.2.2.2.1, .int .i64 o.2.2.2.2.1, .slice a o.2.2.2.2.2.length c] ∧ RdU W W.heap.size a o.2.2.2.2.2 ∧ Byt o.2.2.2.2.2 ∧ (a = none → c = 0) := by
  obtain ⟨xs, m, _, _, _, hlen, hfs⟩ := DataW.trod_struct Tryz.underlying57 h
  match xs, hlen, cs, hl with
  | [y0, y1, y2, y3, y4, y5], _, [c0, c1, c2, c3, c4, c5], _ =>
    have g0 := hfs 0 _ rfl
    have g1 := hfs 1 _ rfl
    have g2 := hfs 2 _ rfl
    have g3 := hfs 3 _ rfl
    have g4 := hfs 4 _ rfl
    have g5 := hfs 5 _ rfl
    simp [cellsIM, cellsSb] at g0 g1 g2 g3 g4 g5
    obtain ⟨x0, e0, _, _⟩ := DataW.trod_int Tryz.underlying3 g0
    obtain ⟨x1, e1, _, _⟩ := DataW.trod_int Tryz.underlying3 g1
    obtain ⟨x2, e2, _, _⟩ := DataW.trod_int Tryz.underlying3 g2
    obtain ⟨x3, e3, _, _⟩ := DataW.trod_int Tryz.underlying3 g3
    obtain ⟨x4, e4, _, _⟩ := DataW.trod_int Tryz.underlying3 g4
    simp at e0 e1 e2 e3 e4
    subst e0 e1 e2 e3 e4
    obtain ⟨a, c, l, rfl, hr, hb⟩ := cs_bytes g5
    exact ⟨(x0, x1, x2, x3, x4, l), a, c, rfl, hr, hb⟩
set_option maxRecDepth 100000 in
theorem open_ops {H : Type} {enc : TypeId × Value → H} {W : World} {base : Nat} {v : Value} {d : DataW H} {p : List MemPlace} (hval : Value.okWide Tryz.prog W .any base 23 v)
    (h : DataW.Trod enc Tryz.prog W 0 (fun _ => true) true 23 v d p) : ∃ (ad : Option Addr) (cap : Nat) (l : List Op6), v = .slice ad l.length cap ∧ RdO W W.heap.size ad l ∧ l.length ≤ cap ∧ cap ≤ maxLen := by
  obtain ⟨a0, len0, cap0, rfl⟩ := okWide_slice Tryz.underlying23 hval
  obtain ⟨fuel, hf⟩ := h
  rcases Deep.open_slice Tryz.underlying23 hf with ⟨hcs, _⟩ | ⟨a, len, cap, m, n, D, Pl, hcs, _, hlc, hcm, hmm, hx, hel⟩
  · simp [Value.cells] at hcs
    obtain ⟨rfl, rfl, rfl⟩ := hcs
    exact ⟨none, 0, [], rfl, fun n o h => by simp at h, Nat.le_refl _, by unfold maxLen; simp⟩
  · simp [Value.cells] at hcs
    obtain ⟨rfl, rfl, rfl⟩ := hcs
    have hm : m = cap0 := by simpa using hmm
    have each : ∀ i, i < len0 → ∃ o : Op6, ∃ (a' : Option Addr) (c : Nat), W.cell? (a.add (i * 6)) = some (.int .i64 o.1) ∧ W.cell? (a.add (i * 6 + 1)) = some (.int .i64 o.2.1) ∧ W.cell? (a.add (i * 6 + 2)) = some (.int .i64 o.2.2.1) ∧ W.cell? (a.add (i * 6 + 3)) = some (.int .i64 o.2.2.2.1) ∧ W.cell? (a.add (i * 6 + 4)) = some (.int .i64 o.2.2.2.2.1) ∧ W.cell? (a.add (i * 6 + 5)) = some (.slice a' o.2.2.2.2.2.length c) ∧ RdU W W.heap.size a' o.2.2.2.2.2 ∧ Byt o.2.2.2.2.2 ∧ (a' = none → c = 0) := by
      intro i hi
      obtain ⟨cs, h1, h2⟩ := hel i (by omega)
      rw [cellsOp] at h1
      obtain ⟨_, hlen, hcell⟩ := World.cells?_some h1
      obtain ⟨o, a', c, rfl, hr, hb⟩ := one_op hlen h2
      have e0 := hcell 0 (by omega)
      have e1 := hcell 1 (by omega)
      have e2 := hcell 2 (by omega)
      have e3 := hcell 3 (by omega)
      have e4 := hcell 4 (by omega)
      have e5 := hcell 5 (by omega)
      rw [Deep.add_add] at e0 e1 e2 e3 e4 e5
      exact ⟨o, a', c, by simpa using e0, by simpa using e1, by simpa using e2, by simpa using e3, by simpa using e4, by simpa using e5, hr, hb⟩
    obtain ⟨q, hq⟩ := Deep.choose_lt each
    refine ⟨some a, cap0, (List.range len0).map q, by simp, fun k y hy => ?_, by simpa using hlc, hcm⟩
    rw [List.getElem?_map] at hy
    obtain ⟨k', hk', rfl⟩ := Option.map_eq_some_iff.1 hy
    have hk := (List.getElem?_eq_some_iff.1 hk').1
    simp at hk
    have hkk : k' = k := by
      rw [List.getElem?_range hk] at hk'
      exact (Option.some.inj hk').symm
    subst hkk
    obtain ⟨_, _, c00, _⟩ := hq 0 (by omega)
    obtain ⟨a', c, c0, c1, c2, c3, c4, c5, hr, hb⟩ := hq k' hk
    obtain ⟨b', off', x'⟩ := a
    have hx' : x' = none := by simpa [Addr.add] using World.cell?_spot c00
    subst hx'
    have hadd : ∀ j, (⟨b', off', none⟩ : Addr).add j = ⟨b', off' + j, none⟩ := fun j => add_pl b' off' j
    have hlt := cell_ltM c0
    rw [hadd] at c0 c1 c2 c3 c4 c5 hlt
    exact ⟨b', off', a', c, rfl, hlt, c0, by simpa [Nat.add_assoc] using c1, by simpa [Nat.add_assoc] using c2, by simpa [Nat.add_assoc] using c3, by simpa [Nat.add_assoc] using c4, by simpa [Nat.add_assoc] using c5, hr, hb⟩
end Go.Proofs.YtjfbnikbmadgkaaGreat
