/-
  DERIVED. GIVEN WITH THE SEED: THE CARDS: each row of YtgehmidalfajgabGreatDoorRows.lean that lists a variable, with what it lists TIED to the program's text (the seventh form; the later family's looks); each row that meets fmt, with fmt's text TOLD by the authors' own Lean function (tested against real Go, not proved from fmt's source: count such statements apart). THE CARD IS WHAT COUNTS. Prove the row's statement (the work); the ties are given (YtgehmidalfajgabGreatDoorTie.lean); close each card by the builder's one call (the guide's Derived/Test/ToyasCard.lean, 'card_holds'). Laid BY PROGRAM, IN A SANDBOX (cutbox-door.mjs). By AI agents, Wed Nov 11 2026. No macro, syntax, notation, axiom, sorry.
-/
import Derived.Test.YtgehmidalfajgabGreatDoorRows
import GoSem.ClaimSeven
namespace Go.Proofs.YtgehmidalfajgabGreatDoor
namespace Rows

/-- THE TIED CARD OF 'earshotlaw14.InferDoubts'. -/
def inferDoubtsCard : Claim7 := { stood := { row := inferDoubtsRow, standIns := [], harness := (true, "7567e37f41f70abf68b53f5247ac8d7c927cc4ff223c14d2a977113c5eda7d4b"), looks := false }, kinds := [], alts := [], laidByText := true, laidKinds := [.data], laidTests := true, laidLooks := .later }
def InferDoubtsCardSaid : Prop := Claim7.holds Tryz.pinned (.plain (OpenSpec.ofChange inferDoubtsSpec)) inferDoubtsCard

/-- THE SECOND FORM's CARD OF 'earshotlaw14.InferDoubts'. -/
def inferDoubtsUptoCard : Claim7 := { stood := { row := inferDoubtsUptoRow, standIns := [], harness := (true, "7567e37f41f70abf68b53f5247ac8d7c927cc4ff223c14d2a977113c5eda7d4b"), looks := false }, kinds := [], alts := [], laidByText := true, laidKinds := [.data], laidTests := true, laidLooks := .later }
def InferDoubtsUptoCardSaid : Prop := Claim7.holds Tryz.pinned (.plain (OpenSpec.upto inferDoubtsSpec)) inferDoubtsUptoCard
end Rows
end Go.Proofs.YtgehmidalfajgabGreatDoor
