import Derived.Test.YtmahamdmapbilaaGreatDoorRows
import Derived.Test.YtmahamdmapbilaaGreatDoorJwJ24
import Derived.LaidMore
import Derived.Lay
import Derived.MakeChecks
import Derived.Test.YtmahamdmapbilaaGreatDoorJwJ36
import Derived.LaidSub
import Derived.Test.YtmahamdmapbilaaGreatDoorJwJ15
import Derived.ProofKit
import Derived.OpenShut
import Derived.Laws.IdiomArrays
import Derived.Deep.Strs
set_option maxHeartbeats 40000000
set_option maxRecDepth 100000
set_option linter.unusedVariables false
namespace Go.Proofs.YtmahamdmapbilaaGreatDoor
open Go.ChangeShapes Go.WideShapes Go.ChangeAt Go.RowKit Go.Lib
theorem tab_of {W : World} (h : laidMetH Tryz.prog [("math/bits.deBruijn32tab", Rows.laid_math_bits_deBruijn32tab)] W) : Tab W := by
 rw [MakeChecks.laidMetH_plain _ _ _ (by kernel_rfl)] at h
 obtain ⟨ps, ⟨g, t, cs, fuel, p, q, hg, ht, hv, hd, _, hps⟩, _, hcells⟩ := h
 obtain rfl := Option.some.inj ((show Tryz.prog.globalNamed "math/bits.deBruijn32tab" = some 0 by kernel_rfl).symm.trans hg)
 obtain rfl := Option.some.inj ((show (Tryz.prog.globals[0]?).map (·.type) = some 284 by kernel_rfl).symm.trans ht)
 obtain ⟨xs, m, _, ex, _, hl, hel⟩ := DataW.trod_array Tryz.underlying284 hd
 have c5 : Tryz.prog.cellsOf 5 = 1 := by kernel_rfl
 have key : ∀ r, r < 32 → cs[r]? = some (.int .u8 (deBruijn32tab.getD r 0 : Nat)) := by
  intro r hr
  have hE := hel r hr
  rw [c5, Nat.mul_one, List.getElem?_eq_getElem (by omega)] at hE
  obtain ⟨z, e1, e2, _⟩ := DataW.trod_int Tryz.underlying5 hE
  have e3 : (xs.map (·.1)) = deBruijn32tab.map fun n => .lit (.int .u8 (n : Nat)) := (DataW.agg.inj (Prod.mk.inj ex).1).symm
  have hlen : deBruijn32tab.length = 32 := rfl
  have e4 : (xs.map (·.1))[r]? = (deBruijn32tab.map fun n => (DataW.lit (.int .u8 (n : Nat)) : DataW Unit))[r]? := by rw [e3]
  rw [List.getElem?_map, List.getElem?_map, List.getElem?_eq_getElem (by omega : r < xs.length), List.getElem?_eq_getElem (by omega : r < deBruijn32tab.length), e2] at e4
  have hz : z = (deBruijn32tab.getD r 0 : Nat) := by
   simp only [Option.map_some, Option.some.injEq, DataW.lit.injEq, Lit.int.injEq, true_and] at e4
   rw [e4, List.getD, List.getElem?_eq_getElem (by omega : r < deBruijn32tab.length)]; rfl
  rw [← hz]
  have h0 : ((cs.toList.drop r).take 1)[0]? = some (.int .u8 z) := by rw [e1]; rfl
  simpa using h0
 have hs : 0 < cs.size := by have := (Array.getElem?_eq_some_iff.1 (key 0 (by decide))).1; exact this
 have hm : MemPlace.cell 0 0 ∈ ps := by
  rw [hps]
  refine List.mem_append_left _ (List.mem_append_left _ ?_)
  exact List.mem_map.2 ⟨0, List.mem_range.2 hs, rfl⟩
 obtain ⟨⟨c, t, hc⟩, _⟩ := hcells 0 0 hm
 refine ⟨c, t, hc, fun j hj => ?_⟩
 have h1 := World.var?_cell hg hv j
 rw [key j hj] at h1
 simpa [World.cell?, hc] using h1
end Go.Proofs.YtmahamdmapbilaaGreatDoor
namespace Go.Proofs.YtmahamdmapbilaaGreatDoor
open Go.RowKit Go.Shelf Go.Lib
theorem tabs_of {L : List (String × DataW Unit)} {W : World} (h : laidMet Tryz.prog L W) (h1 : ("unicode/utf8.acceptRanges", (Rows.laid_unicode_utf8_acceptRanges : DataW Unit)) ∈ L) (h2 : ("unicode/utf8.first", Rows.laid_unicode_utf8_first) ∈ L) (h3 : ("internal/strconv.uint64pow10", (Rows.laid_internal_strconv_uint64pow10 : DataW Unit)) ∈ L) (h4 : (L.filter fun x => x.1 == "math/bits.deBruijn32tab") = [("math/bits.deBruijn32tab", Rows.laid_math_bits_deBruijn32tab)]) : Pow W ∧ Ut W ∧ Tab W := by
 refine ⟨pow_met h h3, tabs_met h h1 h2, ?_⟩
 have := laidMet.filter (fun x => x.1 == "math/bits.deBruijn32tab") h
 rw [h4] at this
 refine tab_of ?_
 rw [MakeChecks.laidMetH_plain _ _ _ (by kernel_rfl)]
 exact this
end Go.Proofs.YtmahamdmapbilaaGreatDoor
namespace Go.Proofs.YtmahamdmapbilaaGreatDoor
open Go.ChangeShapes Go.WideShapes Go.ChangeAt Go.RowKit
end Go.Proofs.YtmahamdmapbilaaGreatDoor
