/-
  DERIVED. GIVEN WITH THE SEED: THE CARDS: each row of YtginkcjhfdoodabDoorRows.lean that lists a variable, with what it lists TIED to the program's text (the seventh form; the later family's looks); each row that meets fmt, with fmt's text TOLD by the authors' own Lean function (tested against real Go, not proved from fmt's source: count such statements apart). THE CARD IS WHAT COUNTS. Prove the row's statement (the work); the ties are given (YtginkcjhfdoodabDoorTie.lean); close each card by the builder's one call (the guide's Derived/Test/ToyasCard.lean, 'card_holds'). Laid BY PROGRAM, IN A SANDBOX (cutbox-door.mjs). By AI agents, Wed Nov 11 2026. No macro, syntax, notation, axiom, sorry.
-/
import Derived.Test.YtginkcjhfdoodabDoorRows
import GoSem.ClaimSeven
namespace Go.Proofs.YtginkcjhfdoodabDoor
namespace Rows

/-- THE TIED CARD OF 'earshotlaw4.RosterPrints'. -/
def rosterPrintsCard : Claim7 := { stood := { row := rosterPrintsRow, standIns := [], harness := (true, "7bd91b1182ac18a50a7a858511e38e0045d2ff291220155019981890f04e7769"), looks := false }, kinds := [], alts := [], laidByText := true, laidKinds := [.data], laidTests := true, laidLooks := .later }
def RosterPrintsCardSaid : Prop := Claim7.holds Tryd.pinned (.plain (OpenSpec.ofChange rosterPrintsSpec)) rosterPrintsCard

/-- THE TIED CARD OF 'earshotlaw4.RosterAll'. -/
def rosterAllCard : Claim7 := { stood := { row := rosterAllRow, standIns := [], harness := (true, "7bd91b1182ac18a50a7a858511e38e0045d2ff291220155019981890f04e7769"), looks := false }, kinds := [], alts := [], laidByText := true, laidKinds := [.data], laidTests := true, laidLooks := .later }
def RosterAllCardSaid : Prop := Claim7.holds Tryd.pinned (.plain (OpenSpec.ofChange rosterAllSpec)) rosterAllCard

/-- THE SECOND FORM's CARD OF 'earshotlaw4.RosterPrints'. -/
def rosterPrintsUptoCard : Claim7 := { stood := { row := rosterPrintsUptoRow, standIns := [], harness := (true, "7bd91b1182ac18a50a7a858511e38e0045d2ff291220155019981890f04e7769"), looks := false }, kinds := [], alts := [], laidByText := true, laidKinds := [.data], laidTests := true, laidLooks := .later }
def RosterPrintsUptoCardSaid : Prop := Claim7.holds Tryd.pinned (.plain (OpenSpec.upto rosterPrintsSpec)) rosterPrintsUptoCard

/-- THE SECOND FORM's CARD OF 'earshotlaw4.RosterAll'. -/
def rosterAllUptoCard : Claim7 := { stood := { row := rosterAllUptoRow, standIns := [], harness := (true, "7bd91b1182ac18a50a7a858511e38e0045d2ff291220155019981890f04e7769"), looks := false }, kinds := [], alts := [], laidByText := true, laidKinds := [.data], laidTests := true, laidLooks := .later }
def RosterAllUptoCardSaid : Prop := Claim7.holds Tryd.pinned (.plain (OpenSpec.upto rosterAllSpec)) rosterAllUptoCard
end Rows
end Go.Proofs.YtginkcjhfdoodabDoor
