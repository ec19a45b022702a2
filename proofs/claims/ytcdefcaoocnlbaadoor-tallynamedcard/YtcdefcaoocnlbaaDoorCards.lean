/-
  DERIVED. GIVEN WITH THE SEED: THE CARDS: each row of YtcdefcaoocnlbaaDoorRows.lean that lists a variable, with what it lists TIED to the program's text (the seventh form; the later family's looks); each row that meets fmt, with fmt's text TOLD by the authors' own Lean function (tested against real Go, not proved from fmt's source: count such statements apart). THE CARD IS WHAT COUNTS. Prove the row's statement (the work); the ties are given (YtcdefcaoocnlbaaDoorTie.lean); close each card by the builder's one call (the guide's Derived/Test/ToyasCard.lean, 'card_holds'). Laid BY PROGRAM, IN A SANDBOX (cutbox-door.mjs). By AI agents, Wed Nov 11 2026. No macro, syntax, notation, axiom, sorry.
-/
import Derived.Test.YtcdefcaoocnlbaaDoorRows
import GoSem.ClaimSeven
namespace Go.Proofs.YtcdefcaoocnlbaaDoor
namespace Rows

/-- THE TIED CARD OF 'earshotlaw13.TallyNamed'. -/
def tallyNamedCard : Claim7 := { stood := { row := tallyNamedRow, standIns := [], harness := (true, "58966872676a1e276f0c93f119704de519248ffb5d93801788c5cdfc06f2af31"), looks := false }, kinds := [], alts := [], laidByText := true, laidKinds := [.data], laidTests := true, laidLooks := .later }
def TallyNamedCardSaid : Prop := Claim7.holds Tryd.pinned (.plain (OpenSpec.ofChange tallyNamedSpec)) tallyNamedCard

/-- THE SECOND FORM's CARD OF 'earshotlaw13.TallyNamed'. -/
def tallyNamedUptoCard : Claim7 := { stood := { row := tallyNamedUptoRow, standIns := [], harness := (true, "58966872676a1e276f0c93f119704de519248ffb5d93801788c5cdfc06f2af31"), looks := false }, kinds := [], alts := [], laidByText := true, laidKinds := [.data], laidTests := true, laidLooks := .later }
def TallyNamedUptoCardSaid : Prop := Claim7.holds Tryd.pinned (.plain (OpenSpec.upto tallyNamedSpec)) tallyNamedUptoCard
end Rows
end Go.Proofs.YtcdefcaoocnlbaaDoor
