/-
  DERIVED. GIVEN WITH THE SEED: THE CARDS: each row of YtoplegfibdmjeaaDoorRows.lean that lists a variable, with what it lists TIED to the program's text (the seventh form; the later family's looks); each row that meets fmt, with fmt's text TOLD by the authors' own Lean function (tested against real Go, not proved from fmt's source: count such statements apart). THE CARD IS WHAT COUNTS. Prove the row's statement (the work); the ties are given (YtoplegfibdmjeaaDoorTie.lean); close each card by the builder's one call (the guide's Derived/Test/ToyasCard.lean, 'card_holds'). Laid BY PROGRAM, IN A SANDBOX (cutbox-door.mjs). By AI agents, Wed Nov 11 2026. No macro, syntax, notation, axiom, sorry.
-/
import Derived.Test.YtoplegfibdmjeaaDoorRows
import GoSem.ClaimSeven
namespace Go.Proofs.YtoplegfibdmjeaaDoor
namespace Rows

/-- THE TIED CARD OF 'earshotlaw3.SetAll'. -/
def setAllCard : Claim7 := { stood := { row := setAllRow, standIns := [], harness := (true, "ae469c252f472256c6e4e234277fa11b0948d8405a6c68ebb5a9216c1524f64f"), looks := false }, kinds := [], alts := [], laidByText := true, laidKinds := [.data], laidTests := true, laidLooks := .later }
def SetAllCardSaid : Prop := Claim7.holds Tryd.pinned (.plain (OpenSpec.ofChange setAllSpec)) setAllCard

/-- THE SECOND FORM's CARD OF 'earshotlaw3.SetAll'. -/
def setAllUptoCard : Claim7 := { stood := { row := setAllUptoRow, standIns := [], harness := (true, "ae469c252f472256c6e4e234277fa11b0948d8405a6c68ebb5a9216c1524f64f"), looks := false }, kinds := [], alts := [], laidByText := true, laidKinds := [.data], laidTests := true, laidLooks := .later }
def SetAllUptoCardSaid : Prop := Claim7.holds Tryd.pinned (.plain (OpenSpec.upto setAllSpec)) setAllUptoCard
end Rows
end Go.Proofs.YtoplegfibdmjeaaDoor
