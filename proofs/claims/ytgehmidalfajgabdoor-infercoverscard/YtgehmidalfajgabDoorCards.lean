/-
  DERIVED. GIVEN WITH THE SEED: THE CARDS: each row of YtgehmidalfajgabDoorRows.lean that lists a variable, with what it lists TIED to the program's text (the seventh form; the later family's looks); each row that meets fmt, with fmt's text TOLD by the authors' own Lean function (tested against real Go, not proved from fmt's source: count such statements apart). THE CARD IS WHAT COUNTS. Prove the row's statement (the work); the ties are given (YtgehmidalfajgabDoorTie.lean); close each card by the builder's one call (the guide's Derived/Test/ToyasCard.lean, 'card_holds'). Laid BY PROGRAM, IN A SANDBOX (cutbox-door.mjs). By AI agents, Wed Nov 11 2026. No macro, syntax, notation, axiom, sorry.
-/
import Derived.Test.YtgehmidalfajgabDoorRows
import GoSem.ClaimSeven
namespace Go.Proofs.YtgehmidalfajgabDoor
namespace Rows

/-- THE TIED CARD OF 'earshotlaw14.InferCovers'. -/
def inferCoversCard : Claim7 := { stood := { row := inferCoversRow, standIns := [], harness := (true, "d7cb1d96f08d40f0ca28f1a6028bf5e1dc8c15917a061365ff109b7c7f29f477"), looks := false }, kinds := [], alts := [], laidByText := true, laidKinds := [.data], laidTests := true, laidLooks := .later }
def InferCoversCardSaid : Prop := Claim7.holds Tryd.pinned (.plain (OpenSpec.ofChange inferCoversSpec)) inferCoversCard

/-- THE SECOND FORM's CARD OF 'earshotlaw14.InferCovers'. -/
def inferCoversUptoCard : Claim7 := { stood := { row := inferCoversUptoRow, standIns := [], harness := (true, "d7cb1d96f08d40f0ca28f1a6028bf5e1dc8c15917a061365ff109b7c7f29f477"), looks := false }, kinds := [], alts := [], laidByText := true, laidKinds := [.data], laidTests := true, laidLooks := .later }
def InferCoversUptoCardSaid : Prop := Claim7.holds Tryd.pinned (.plain (OpenSpec.upto inferCoversSpec)) inferCoversUptoCard
end Rows
end Go.Proofs.YtgehmidalfajgabDoor
