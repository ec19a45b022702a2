/- The play's start: the book of lists, the two that are played with; a store of one of them. -/
import Derived.Test.YtkbeoliglnikiaaGreatDsi
import Derived.Test.YtkbeoliglnikiaaGreatOpp
namespace Go.Proofs.YtkbeoliglnikiaaGreat
open Go.RowKit Go.Shelf

theorem wpList_store_in {P : Program} {ops : Array Oper} {rest : List Oper} {o : Oper} {a : Act} {w : World} {Q : Exit → Act → World → Prop} (hgd : o.guard = none) (ty : TypeId) (x y : Operand) (ho : o.op = .store ty x y)
    (g off : Nat) (t : TypeId) (cur vs : List Value) (hx : a.eval x = .pointer (some ⟨g, off, none⟩)) (hy : a.eval y = .agg vs.toArray) (hg : w.heap[g]? = some (.cells cur.toArray t (0, 0))) (hi : (P.info? ty).map (·.size) = some vs.length) (hf : off + vs.length ≤ cur.length) (h1 : ∀ v ∈ vs, v.oneCell' = true)
    (h : wpList P ops Q rest (a.put o.dst undef) (w.setRow g (splice cur off vs).toArray)) : wpList P ops Q (o :: rest) a w :=
  wpList_plain hgd fun K hK => by
    unfold Oper.wp execOp
    simp only [ho, hx, hy, Sem.run_bind, run_store_in w g off t ty cur vs hg hi hf h1, Result.andThen_ok]
    exact hK _ _ h
/-- The cells of one that is played with. -/
def boC (p r c bb : Nat) (d : Dst) : List Value := [.pointer (some ⟨p, 0, none⟩), .slice (some ⟨r, 0, none⟩) 256 c, .bool d.off, .int .i64 (left d), .int .i64 d.writes, .pointer (some ⟨bb, 0, none⟩)]
theorem info_bo : (Tryz.prog.info? 46).map (·.size) = some 6 := by kernel_rfl
theorem boC_one (p r c bb : Nat) (d : Dst) : ∀ v ∈ boC p r c bb d, v.oneCell' = true := by
  intro v hv
  simp [boC] at hv
  rcases hv with rfl | rfl | rfl | rfl | rfl | rfl <;> rfl
/-- The book of lists at its start. -/
theorem nk_new {σ : Sg} {W : World} {base bb : Nat} (h : KB W bb (.slice none 0 0) (.slice none 0 0)) (hb : base ≤ bb) (hs : ∀ b, σ b → b < W.heap.size) : NK σ base bb W :=
  ⟨hs, 0, [], [], [], [], ⟨_, _, Nat.zero_le _, h, World.ownsRow_nil _ _ _ _, World.ownsRow_nil _ _ _ _, (fun q e => by cases e), hb⟩, rfl, ⟨(fun i l hl => by simp at hl), rfl, rfl, rfl, (fun i j g hi => by simp at hi)⟩⟩
section
variable {base lb bb : Nat} {W : World}
theorem boC_len (p r c bb : Nat) (d : Dst) : (boC p r c bb d).length = 6 := rfl
/-- The two that are played with, out of their block. -/
theorem sd_lo {σ : Sg} {p r c : Nat} {d : Dst} {rest : List Value} (hl : W.heap[lb]? = some (.cells (boC p r c bb d ++ rest).toArray 47 (0, 0))) (hd : Dk W p d) (hr : W.ownsRow base 5 1 (.slice (some ⟨r, 0, none⟩) 256 c) 256 (cB d.l)) (hn : NK σ base bb W) (hz : base ≤ W.heap.size) (hp : base ≤ p) (hlb : base ≤ lb) (hsr : σ r) : Sd σ base lb 0 bb p r c d W :=
  ⟨(cell_at hl 0).trans rfl, ⟨(cell_at hl 1).trans rfl, (cell_at hl 2).trans rfl, (cell_at hl 3).trans rfl, (cell_at hl 4).trans rfl, hr, ⟨_, hl⟩, hd.len, hd.byt⟩, (cell_at hl 5).trans rfl, hd, hn, hz, hp, hlb, hsr⟩
theorem sd_hi {σ : Sg} {p r c p' r' c' : Nat} {d d' : Dst} (hl : W.heap[lb]? = some (.cells (boC p r c bb d ++ boC p' r' c' bb d').toArray 47 (0, 0))) (hd : Dk W p' d') (hr : W.ownsRow base 5 1 (.slice (some ⟨r', 0, none⟩) 256 c') 256 (cB d'.l)) (hn : NK σ base bb W) (hz : base ≤ W.heap.size) (hp : base ≤ p') (hlb : base ≤ lb) (hsr : σ r') : Sd σ base lb 6 bb p' r' c' d' W :=
  ⟨(cell_at hl 6).trans rfl, ⟨(cell_at hl 7).trans rfl, (cell_at hl 8).trans rfl, (cell_at hl 9).trans rfl, (cell_at hl 10).trans rfl, hr, ⟨_, hl⟩, hd.len, hd.byt⟩, (cell_at hl 11).trans rfl, hd, hn, hz, hp, hlb, hsr⟩
end
end Go.Proofs.YtkbeoliglnikiaaGreat
