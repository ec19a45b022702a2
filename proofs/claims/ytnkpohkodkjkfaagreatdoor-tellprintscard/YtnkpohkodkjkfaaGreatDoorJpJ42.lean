/- That the table of math/bits lies in its variable, by what the row lists. -/
import Derived.Test.YtnkpohkodkjkfaaGreatDoorRows
import Derived.Test.YtnkpohkodkjkfaaGreatDoorJpJ37
import Derived.LaidMore
import Derived.Lay
import Derived.MakeChecks
import Derived.Test.YtnkpohkodkjkfaaGreatDoorJpJ41
import Derived.LaidSub
import Derived.Test.YtnkpohkodkjkfaaGreatDoorJpJ34
set_option maxHeartbeats 40000000
set_option maxRecDepth 100000
set_option linter.unusedVariables false
namespace Go.Proofs.YtnkpohkodkjkfaaGreatDoor
open Go.ChangeShapes Go.WideShapes Go.ChangeAt Go.RowKit Go.Lib

theorem tab_of {W : World} (h : laidMetH Tryz.prog [("math/bits.deBruijn32tab", Rows.laid_math_bits_deBruijn32tab)] W) : Tab W := by
  rw [MakeChecks.laidMetH_plain _ _ _ (by kernel_rfl)] at h
  obtain ⟨ps, ⟨g, t, cs, fuel, p, q, hg, ht, hv, hd, _, hps⟩, _, hcells⟩ := h
  obtain rfl := Option.some.inj ((show Tryz.prog.globalNamed "math/bits.deBruijn32tab" = some 0 by kernel_rfl).symm.trans hg)
  obtain rfl := Option.some.inj ((show (Tryz.prog.globals[0]?).map (·.type) = some 182 by kernel_rfl).symm.trans ht)
  obtain ⟨xs, m, _, ex, _, hl, hel⟩ := DataW.trod_array Tryz.underlying182 hd
  have c5 : Tryz.prog.cellsOf 5 = 1 := by kernel_rfl
  have key : ∀ r, r < 32 → cs[r]? = some (.int .u8 (deBruijn32tab.getD r 0 : Nat)) := by
    intro r hr
    have hE := hel r hr
    rw [c5, Nat.mul_one, List.getElem?_eq_getElem (by omega)] at hE
    obtain ⟨z, e1, e2, _⟩ := DataW.trod_int Tryz.underlying5 hE
    have e3 : (xs.map (·.1)) = deBruijn32tab.map fun n => .lit (.int .u8 (n : Nat)) := (DataW.agg.inj (Prod.mk.inj ex).1).symm
    have hlen : deBruijn32tab.length = 32 := rfl
    have e4 : (xs.map (·.1))[r]? = (deBruijn32tab.map fun n => (DataW.lit (.int .u8 (n : Nat)) : DataW Unit))[r]? := by rw [e3]
    rw [List.getElem?_map, List.getElem?_map, List.getElem?_eq_getElem (by omega : r < xs.length), List.getElem?_eq_getElem (by omega : r < deBruijn32tab.length), e2] at e4
    have hz : z = (deBruijn32tab.getD r 0 : Nat) := by
      simp only [Option.map_some, Option.some.injEq, DataW.lit.injEq, Lit.int.injEq, true_and] at e4
      rw [e4, List.getD, List.getElem?_eq_getElem (by omega : r < deBruijn32tab.length)]; rfl
    rw [← hz]
    have h0 : ((cs.toList.drop r).take 1)[0]? = some (.int .u8 z) := by rw [e1]; rfl
    simpa using h0
  have hs : 0 < cs.size := by have := (Array.getElem?_eq_some_iff.1 (key 0 (by decide))).1; exact this
  have hm : MemPlace.cell 0 0 ∈ ps := by
    rw [hps]
    refine List.mem_append_left _ (List.mem_append_left _ ?_)
    exact List.mem_map.2 ⟨0, List.mem_range.2 hs, rfl⟩
  obtain ⟨⟨c, t, hc⟩, _⟩ := hcells 0 0 hm
  refine ⟨c, t, hc, fun j hj => ?_⟩
  have h1 := World.var?_cell hg hv j
  rw [key j hj] at h1
  simpa [World.cell?, hc] using h1
end Go.Proofs.YtnkpohkodkjkfaaGreatDoor
namespace Go.Proofs.YtnkpohkodkjkfaaGreatDoor
open Go.RowKit Go.Shelf Go.Lib

/-- A note of the document's in a box. -/
abbrev nC8 (k f r : Int) (N : Nat) (v : Value) : Array Value := #[.int .i64 k, .int .i64 f, .int .i64 r, .int .u32 (wd N 0 : Nat), .int .u32 (wd N 1 : Nat), .int .u32 (wd N 2 : Nat), .int .u32 (wd N 3 : Nat), v]
def Nb8 (W : World) (b : Nat) (k f r : Int) (N : Nat) (v : Value) : Prop := W.heap[b]? = some (.cells (nC8 k f r N v) 27 (0, 0))
theorem Nb8.carry {W V : World} {b : Nat} {k f r : Int} {N : Nat} {v : Value} (h : Nb8 W b k f r N v) (hb : Below W.heap.size W V) : Nb8 V b k f r N v := (hb.block _ (lt_at h)).trans h
theorem Nb8.cells {W : World} {b : Nat} {k f r : Int} {N : Nat} {v : Value} (h : Nb8 W b k f r N v) : W.cell? ⟨b, 0, none⟩ = some (.int .i64 k) ∧ W.cell? ⟨b, 1, none⟩ = some (.int .i64 f) ∧ W.cell? ⟨b, 2, none⟩ = some (.int .i64 r) ∧ W.cell? ⟨b, 3, none⟩ = some (.int .u32 (wd N 0 : Nat)) ∧ W.cell? ⟨b, 4, none⟩ = some (.int .u32 (wd N 1 : Nat)) ∧ W.cell? ⟨b, 5, none⟩ = some (.int .u32 (wd N 2 : Nat)) ∧ W.cell? ⟨b, 6, none⟩ = some (.int .u32 (wd N 3 : Nat)) ∧ W.cell? ⟨b, 7, none⟩ = some v :=
  ⟨(cell_at h 0).trans rfl, (cell_at h 1).trans rfl, (cell_at h 2).trans rfl, (cell_at h 3).trans rfl, (cell_at h 4).trans rfl, (cell_at h 5).trans rfl, (cell_at h 6).trans rfl, (cell_at h 7).trans rfl⟩
theorem info8 : (Tryz.prog.info? 27).map (·.size) = some 8 := by kernel_rfl
theorem nC8_all (k f r : Int) (N : Nat) (a : Option Addr) (m c : Nat) : (nC8 k f r N (.slice a m c)).all (·.oneCell') = true := by simp [Value.oneCell']
/-- A note is stored over a box. -/
theorem nb8_set {w W : World} {b : Nat} {k f r k' f' r' : Int} {N N' : Nat} {v v' : Value} (h : Nb8 W b k f r N v) (hw : Below w.heap.size w W) (hB : w.heap.size ≤ b) : ∃ V, W.setRow b (nC8 k' f' r' N' v') = V ∧ Nb8 V b k' f' r' N' v' ∧ Below w.heap.size w V ∧ V.heap.size = W.heap.size :=
  ⟨_, rfl, setRow_heap _ _ _ _ _ _ h, hw.trans ⟨rfl, rfl, rfl, by simp [World.setRow], fun q hq => Go.setRow_other _ _ _ _ (by omega)⟩, by simp [World.setRow]⟩
theorem krN_lo (k r : Int) (h : (Lit.int .i64 r).wf = true) : -9223372036854775808 ≤ krN k r ∧ krN k r ≤ 9223372036854775807 := by
  have h' : -9223372036854775808 ≤ r ∧ r ≤ 9223372036854775807 := by
    simp [Lit.wf] at h
    have h1 : IntKind.i64.min = -9223372036854775808 := rfl
    have h2 : IntKind.i64.max = 9223372036854775807 := rfl
    omega
  unfold krN
  split
  · exact h'
  · omega
/-- The library's tables, by what the row lists. -/
theorem tabs_of {L : List (String × DataW Unit)} {W : World} (h : laidMet Tryz.prog L W) (h1 : ("unicode/utf8.acceptRanges", (Rows.laid_unicode_utf8_acceptRanges : DataW Unit)) ∈ L) (h2 : ("unicode/utf8.first", Rows.laid_unicode_utf8_first) ∈ L) (h3 : ("internal/strconv.uint64pow10", (Rows.laid_internal_strconv_uint64pow10 : DataW Unit)) ∈ L) (h4 : (L.filter fun x => x.1 == "math/bits.deBruijn32tab") = [("math/bits.deBruijn32tab", Rows.laid_math_bits_deBruijn32tab)]) : Pow W ∧ Ut W ∧ Tab W := by
  refine ⟨pow_met h h3, tabs_met h h1 h2, ?_⟩
  have := laidMet.filter (fun x => x.1 == "math/bits.deBruijn32tab") h
  rw [h4] at this
  refine tab_of ?_
  rw [MakeChecks.laidMetH_plain _ _ _ (by kernel_rfl)]
  exact this
/-- A note's box and a roster's, while the law goes on. -/
structure JB8 (w : World) (b p : Nat) (k f r : Int) (N : Nat) (v sl mp : Value) (V : World) : Prop where
  be : Below w.heap.size w V
  bn : Nb8 V b k f r N v
  bx : V.heap[p]? = some (.cells #[sl, mp] 33 (0, 0))
theorem JB8.carry {w : World} {b p : Nat} {k f r : Int} {N : Nat} {v sl mp : Value} {V U : World} (h : JB8 w b p k f r N v sl mp V) (hb : Below V.heap.size V U) : JB8 w b p k f r N v sl mp U := ⟨bel3 h.be hb, h.bn.carry hb, (hb.block _ (lt_at h.bx)).trans h.bx⟩

theorem field_n8 (W : World) (b : Nat) : (Instr.fieldAt 27 (.pointer (some ⟨b, 0, none⟩)) 4).run Tryz.prog W = .ok (.pointer (some ⟨b, 7, none⟩)) W := by go_simp
theorem ld_n {W : World} {b o : Nat} {a : Option Addr} {n c : Nat} (h : W.cell? ⟨b, o, none⟩ = some (.slice a n c)) : (Instr.loadAt 25 (.pointer (some ⟨b, o, none⟩))).run Tryz.prog W = .ok (.slice a n c) W := by go_simp
end Go.Proofs.YtnkpohkodkjkfaaGreatDoor
