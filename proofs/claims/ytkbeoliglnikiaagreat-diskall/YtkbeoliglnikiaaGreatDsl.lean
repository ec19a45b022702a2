/- The two that are played with, while the play goes on. -/
import Derived.Test.YtkbeoliglnikiaaGreatDsj
import Derived.Laws.Bits128
namespace Go.Proofs.YtkbeoliglnikiaaGreat
open Go.RowKit Go.Shelf
theorem i64_and1 (n : Int) : bits .and .i64 n 1 = n % 2 := by
  have h1 : (BitVec.ofInt 64 1).toNat = 2 ^ 1 - 1 := by decide
  have key : (BitVec.ofInt 64 n &&& BitVec.ofInt 64 1).toNat = (n % ((2 ^ 64 : Nat) : Int)).toNat % 2 ^ 1 := by
    rw [BitVec.toNat_and, BitVec.toNat_ofInt, h1, Nat.and_two_pow_sub_one_eq_mod]
  show IntKind.i64.wrap ((BitVec.ofInt 64 n &&& BitVec.ofInt 64 1).toNat : Nat) = n % 2
  rw [key, IntKind.wrap_i64]
  omega
theorem row_tpb {W V : World} {base g n c q : Nat} {e : TypeId} {xs : List Value} (h : W.ownsRow base e 1 (.slice (some ⟨g, 0, none⟩) n c) n xs) (ht : Tp q W V) (hn : g ≠ q) : V.ownsRow base e 1 (.slice (some ⟨g, 0, none⟩) n c) n xs := by
  refine ⟨h.1, ?_⟩
  rcases h.2 with ⟨e1, _⟩ | ⟨g1, c1, cur, e1, h2, h3, h4⟩
  · cases e1
  · cases e1
    exact .inr ⟨g, c, cur, rfl, h2, (ht.block g (lt_at h3) hn).trans h3, h4⟩
/-- Both, seen from the one at 6 q on. -/
structure Pq (σ : Sg) (w : World) (lb bb m q p r c : Nat) (d : Dst) (p' r' c' : Nat) (d' : Dst) (W : World) : Prop where
  a : Sd σ w.heap.size lb (6 * q) bb p r c d W
  b : Sd σ w.heap.size lb (6 * (1 - q)) bb p' r' c' d' W
  np : p ≠ p'
  nr : r ≠ r'
  fa : Fz d
  fb : Fz d'
  wa : 0 ≤ d.writes ∧ d.writes ≤ (m : Int)
  wb : 0 ≤ d'.writes ∧ d'.writes ≤ (m : Int)
  low : Below w.heap.size w W
def PS (w : World) (lb bb m : Nat) (W : World) : Prop := ∃ σ p r c d p' r' c' d', Pq σ w lb bb m 0 p r c d p' r' c' d' W
section
variable {w : World} {lb bb m q p r c : Nat} {d : Dst} {p' r' c' : Nat} {d' : Dst} {W V : World}
theorem PS.at (h : PS w lb bb m W) (hq : q < 2) : ∃ σ p r c d p' r' c' d', Pq σ w lb bb m q p r c d p' r' c' d' W := by
  obtain ⟨σ, p, r, c, d, p', r', c', d', h⟩ := h
  match q, hq with
  | 0, _ => exact ⟨σ, p, r, c, d, p', r', c', d', h⟩
  | 1, _ => exact ⟨σ, p', r', c', d', p, r, c, d, h.b, h.a, Ne.symm h.np, Ne.symm h.nr, h.fb, h.fa, h.wb, h.wa, h.low⟩
theorem Pq.ps {σ : Sg} (h : Pq σ w lb bb m q p r c d p' r' c' d' W) (hq : q < 2) : PS w lb bb m W := by
  match q, hq with
  | 0, _ => exact ⟨σ, p, r, c, d, p', r', c', d', h⟩
  | 1, _ => exact ⟨σ, p', r', c', d', p, r, c, d, h.b, h.a, Ne.symm h.np, Ne.symm h.nr, h.fb, h.fa, h.wb, h.wa, h.low⟩
theorem Pq.carry {σ : Sg} (h : Pq σ w lb bb m q p r c d p' r' c' d' W) (hb : Below W.heap.size W V) : Pq σ w lb bb m q p r c d p' r' c' d' V := ⟨h.a.carry hb, h.b.carry hb, h.np, h.nr, h.fa, h.fb, h.wa, h.wb, h.low.trans (hb.mono h.low.size)⟩
theorem Pq.grow {σ : Sg} (h : Pq σ w lb bb m q p r c d p' r' c' d' W) : Pq σ w lb bb (m + 1) q p r c d p' r' c' d' W := ⟨h.a, h.b, h.np, h.nr, h.fa, h.fb, ⟨h.wa.1, by have := h.wa.2; omega⟩, ⟨h.wb.1, by have := h.wb.2; omega⟩, h.low⟩
theorem sd_types {σ : Sg} {base off off' : Nat} (h : Sd σ base lb off bb p r c d W) (k : Sd σ base lb off' bb p' r' c' d' W) : p' ≠ r := fun e => by
  obtain ⟨_, cur, hr⟩ := h.rf.rb
  rw [← e] at hr
  have := hr.symm.trans k.dk.obj
  simp only [Option.some.injEq, Obj.cells.injEq] at this
  exact absurd this.2.1 (by decide)
theorem Pq.step {σ : Sg} {d2 : Dst} (h : Pq σ w lb bb m q p r c d p' r' c' d' W) (hq : q < 2) (hs : Sd σ w.heap.size lb (6 * q) bb p r c d2 V) (he : Ev w.heap.size lb (6 * q) p r W V) (hf : Fz d2) (hw : 0 ≤ d2.writes ∧ d2.writes ≤ d.writes + 1) : Pq σ w lb bb (m + 1) q p r c d2 p' r' c' d' V :=
  ⟨hs, h.b.ev he hs.nk (by omega) (Ne.symm h.np) (Ne.symm h.nr) (sd_types h.a h.b) (Ne.symm (sd_types h.b h.a)), h.np, h.nr, hf, h.fb, ⟨hw.1, by have := h.wa.2; omega⟩, ⟨h.wb.1, by have := h.wb.2; omega⟩, he.below h.low⟩
theorem Pq.bl {σ : Sg} (h : Pq σ w lb bb m q p r c d p' r' c' d' W) : Below w.heap.size w W := h.low
end
theorem idx_b2 (B q : Nat) (hq : q < 2) (W : World) : (Instr.indexAt 47 (.pointer (some ⟨B, 0, none⟩)) (.int .i64 (q : Int))).run Tryz.prog W = .ok (.pointer (some ⟨B, 6 * q, none⟩)) W := by
  match q, hq with
  | 0, _ => go_simp
  | 1, _ => go_simp
theorem OpB.c1 {W : World} {b : Nat} {k who a : Int} {v : Value} (h : OpB W b k who a v) : W.cell? ⟨b, 1, none⟩ = some (.int .i64 who) := cell_at h 1
theorem load_opb {V : World} {b n c : Nat} {k who x : Int} {a : Option Addr} (h : OpB V b k who x (.slice a n c)) : (Instr.loadAt 61 (.pointer (some ⟨b, 0, none⟩))).run Tryz.prog V = .ok (.agg #[.int .i64 k, .int .i64 who, .int .i64 x, .slice a n c]) V := load_O h.c0 h.c1 h.c2 h.c3
theorem load_rdd {V : World} {lb o base r c : Nat} {d : Dst} (h : RfD V lb o base r c d) : (Instr.loadAt 44 (.pointer (some ⟨lb, o, none⟩))).run Tryz.prog V = .ok (rdV r c d.off (left d) d.writes) V := by
  have c0 := h.b
  have c1 := h.f
  have c2 := h.u
  have c3 := h.n
  unfold rdV
  go_simp
section
variable {w : World} {lb bb m q p r c : Nat} {d : Dst} {p' r' c' : Nat} {d' : Dst} {W : World}
/-- The other one is put anew: a twin. -/
theorem Pq.twin {σ : Sg} {p2 r2 c2 : Nat} (h : Pq σ w lb bb m q p r c d p' r' c' d' W) (hq : q < 2) (hp : Dk W p2 d) (hr : W.ownsRow w.heap.size 5 1 (.slice (some ⟨r2, 0, none⟩) 256 c2) 256 (cB d.l)) (hpb : w.heap.size ≤ p2) (n1 : p ≠ p2) (n2 : r ≠ r2) (hm : NK (oneMore σ r2) w.heap.size bb W) : ∃ V, (Instr.storeAt 46 (.pointer (some ⟨lb, 6 * (1 - q), none⟩)) (.agg (boC p2 r2 c2 bb d).toArray)).run Tryz.prog W = .ok () V ∧ PS w lb bb (m + 1) V := by
  obtain ⟨cur, hl⟩ := h.a.rf.lk
  have hz : 12 ≤ cur.size := by
    have e1 := h.a.c5
    have e2 := h.b.c5
    rw [cell_at hl] at e1 e2
    have f1 := (Array.getElem?_eq_some_iff.1 e1).1
    have f2 := (Array.getElem?_eq_some_iff.1 e2).1
    omega
  have hl' : W.heap[lb]? = some (.cells cur.toList.toArray 47 (0, 0)) := by simpa using hl
  have hfit : 6 * (1 - q) + (boC p2 r2 c2 bb d).length ≤ cur.toList.length := by rw [boC_len, Array.length_toList]; omega
  refine ⟨_, run_store_in W lb (6 * (1 - q)) _ _ cur.toList (boC p2 r2 c2 bb d) hl' info_bo hfit (boC_one _ _ _ _ _), ?_⟩
  obtain ⟨V, hV⟩ : ∃ V, W.setRow lb (splice cur.toList (6 * (1 - q)) (boC p2 r2 c2 bb d)).toArray = V := ⟨_, rfl⟩
  rw [hV]
  have hlV : V.heap[lb]? = some (.cells (splice cur.toList (6 * (1 - q)) (boC p2 r2 c2 bb d)).toArray 47 (0, 0)) := by rw [← hV]; exact setRow_heap _ _ _ _ _ _ hl'
  have tV : Tp lb W V := by rw [← hV]; exact Tp.row _ _ _
  have e0 : (cur.toList.take (6 * (1 - q))).length = 6 * (1 - q) := by rw [List.length_take, Array.length_toList]; omega
  have old : ∀ j, 6 * q ≤ j → j < 6 * q + 6 → V.cell? ⟨lb, j, none⟩ = W.cell? ⟨lb, j, none⟩ := fun j h1 h2 => by
    rw [cell_at hlV, cell_at hl, List.getElem?_toArray, ← Array.getElem?_toList]
    by_cases hlt : j < 6 * (1 - q)
    · rw [splice, List.getElem?_append_left (by omega), List.getElem?_take, if_pos hlt]
    · rw [splice, List.getElem?_append_right (by omega), List.getElem?_append_right (by rw [boC_len]; omega), List.getElem?_drop, e0, boC_len]
      congr 1
      omega
  have new : ∀ j, j < 6 → V.cell? ⟨lb, 6 * (1 - q) + j, none⟩ = (boC p2 r2 c2 bb d)[j]? := fun j hj => by
    rw [cell_at hlV, List.getElem?_toArray, splice, List.getElem?_append_right (by omega), e0, List.getElem?_append_left (by rw [boC_len]; omega)]
    congr 1
    omega
  have hnk : NK (oneMore σ r2) w.heap.size bb V := nk_tp hm hl (by decide) (by decide) (.inl (by decide)) tV.size tV.block
  have hbz : w.heap.size ≤ V.heap.size := Nat.le_trans h.a.bz tV.size
  have nlb : ∀ (g : Nat) (cc : Array Value), W.heap[g]? = some (.cells cc 5 (0, 0)) → g ≠ lb := fun g cc hg e => by
    rw [e] at hg
    have := hg.symm.trans hl
    simp only [Option.some.injEq, Obj.cells.injEq] at this
    exact absurd this.2.1 (by decide)
  have hp2 : p2 ≠ lb := fun e => by
    have h1 := hp.obj
    rw [e] at h1
    have := h1.symm.trans hl
    simp only [Option.some.injEq, Obj.cells.injEq] at this
    exact absurd this.2.1 (by decide)
  obtain ⟨_, cc2, hc2⟩ := ownsRow_block hr r2 rfl
  obtain ⟨_, cc1, hc1⟩ := h.a.rf.rb
  have ha : Sd (oneMore σ r2) w.heap.size lb (6 * q) bb p r c d V := ⟨(old _ (by omega) (by omega)).trans h.a.c0, ⟨(old _ (by omega) (by omega)).trans h.a.rf.b, (old _ (by omega) (by omega)).trans h.a.rf.f, (old _ (by omega) (by omega)).trans h.a.rf.u, (old _ (by omega) (by omega)).trans h.a.rf.n, row_tpb h.a.rf.row tV (nlb _ _ hc1), ⟨_, hlV⟩, h.a.rf.len, h.a.rf.byt⟩, (old _ (by omega) (by omega)).trans h.a.c5, h.a.dk.tp tV (Ne.symm h.a.ne), hnk, hbz, h.a.pb, h.a.lb0, .inl h.a.sr⟩
  have hb : Sd (oneMore σ r2) w.heap.size lb (6 * (1 - q)) bb p2 r2 c2 d V := ⟨(new 0 (by omega)).trans rfl, ⟨(new 1 (by omega)).trans rfl, (new 2 (by omega)).trans rfl, (new 3 (by omega)).trans rfl, (new 4 (by omega)).trans rfl, row_tpb hr tV (nlb _ _ hc2), ⟨_, hlV⟩, hp.len, hp.byt⟩, (new 5 (by omega)).trans rfl, hp.tp tV hp2, hnk, hbz, hpb, h.a.lb0, .inr rfl⟩
  have hfin : Pq (oneMore σ r2) w lb bb m q p r c d p2 r2 c2 d V := ⟨ha, hb, n1, n2, h.fa, h.fa, h.wa, h.wa, h.low.trans (tV.below h.a.lb0 h.low.size)⟩
  exact hfin.grow.ps hq
end
end Go.Proofs.YtkbeoliglnikiaaGreat
