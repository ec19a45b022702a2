/-
  DERIVED. GIVEN WITH THE SEED: THE CARDS: each row of YtklnfbanfgdgcaaGreatDoorRows.lean that lists a variable, with what it lists TIED to the program's text (the seventh form; the later family's looks); each row that meets fmt, with fmt's text TOLD by the authors' own Lean function (tested against real Go, not proved from fmt's source: count such statements apart). THE CARD IS WHAT COUNTS. Prove the row's statement (the work); the ties are given (YtklnfbanfgdgcaaGreatDoorTie.lean); close each card by the builder's one call (the guide's Derived/Test/ToyasCard.lean, 'card_holds'). Laid BY PROGRAM, IN A SANDBOX (cutbox-door.mjs). By AI agents, Wed Nov 11 2026. No macro, syntax, notation, axiom, sorry.
-/
import Derived.Test.YtklnfbanfgdgcaaGreatDoorRows
import GoSem.ClaimSeven
namespace Go.Proofs.YtklnfbanfgdgcaaGreatDoor
namespace Rows

/-- THE TIED CARD OF 'earshotlaw17.NodeOpens'. -/
def nodeOpensCard : Claim7 := { stood := { row := nodeOpensRow, standIns := [], harness := (true, "776cde76980ef99acdcee8b7a31ecee7aa9f010c483812c2b935e5e4d3017353"), looks := true }, kinds := [], alts := [], laidByText := true, laidKinds := [.data, .handle, .sentinel], laidTests := true, laidLooks := .later }
def NodeOpensCardSaid : Prop := Claim7.holds Tryz.pinned (.plain (OpenSpec.ofChange nodeOpensSpec)) nodeOpensCard

/-- THE SECOND FORM's CARD OF 'earshotlaw17.NodeOpens'. -/
def nodeOpensUptoCard : Claim7 := { stood := { row := nodeOpensUptoRow, standIns := [], harness := (true, "776cde76980ef99acdcee8b7a31ecee7aa9f010c483812c2b935e5e4d3017353"), looks := true }, kinds := [], alts := [], laidByText := true, laidKinds := [.data, .handle, .sentinel], laidTests := true, laidLooks := .later }
def NodeOpensUptoCardSaid : Prop := Claim7.holds Tryz.pinned (.plain (OpenSpec.upto nodeOpensSpec)) nodeOpensUptoCard
end Rows
end Go.Proofs.YtklnfbanfgdgcaaGreatDoor
