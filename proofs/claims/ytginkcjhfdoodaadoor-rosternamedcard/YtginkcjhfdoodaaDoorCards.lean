/-
  DERIVED. GIVEN WITH THE SEED: THE CARDS: each row of YtginkcjhfdoodaaDoorRows.lean that lists a variable, with what it lists TIED to the program's text (the seventh form; the later family's looks); each row that meets fmt, with fmt's text TOLD by the authors' own Lean function (tested against real Go, not proved from fmt's source: count such statements apart). THE CARD IS WHAT COUNTS. Prove the row's statement (the work); the ties are given (YtginkcjhfdoodaaDoorTie.lean); close each card by the builder's one call (the guide's Derived/Test/ToyasCard.lean, 'card_holds'). Laid BY PROGRAM, IN A SANDBOX (cutbox-door.mjs). By AI agents, Wed Nov 11 2026. No macro, syntax, notation, axiom, sorry.
-/
import Derived.Test.YtginkcjhfdoodaaDoorRows
import GoSem.ClaimSeven
namespace Go.Proofs.YtginkcjhfdoodaaDoor
namespace Rows

/-- THE TIED CARD OF 'earshotlaw4.RosterBack'. -/
def rosterBackCard : Claim7 := { stood := { row := rosterBackRow, standIns := [], harness := (true, "75a1b1b8db9abb964bd5fd9d7e8503ea95bea0fb1d0348a53e55711e99b8828c"), looks := false }, kinds := [], alts := [], laidByText := true, laidKinds := [.data], laidTests := true, laidLooks := .later }
def RosterBackCardSaid : Prop := Claim7.holds Tryd.pinned (.plain (OpenSpec.ofChange rosterBackSpec)) rosterBackCard

/-- THE TIED CARD OF 'earshotlaw4.RosterNamed'. -/
def rosterNamedCard : Claim7 := { stood := { row := rosterNamedRow, standIns := [], harness := (true, "75a1b1b8db9abb964bd5fd9d7e8503ea95bea0fb1d0348a53e55711e99b8828c"), looks := false }, kinds := [], alts := [], laidByText := true, laidKinds := [.data], laidTests := true, laidLooks := .later }
def RosterNamedCardSaid : Prop := Claim7.holds Tryd.pinned (.plain (OpenSpec.ofChange rosterNamedSpec)) rosterNamedCard

/-- THE SECOND FORM's CARD OF 'earshotlaw4.RosterBack'. -/
def rosterBackUptoCard : Claim7 := { stood := { row := rosterBackUptoRow, standIns := [], harness := (true, "75a1b1b8db9abb964bd5fd9d7e8503ea95bea0fb1d0348a53e55711e99b8828c"), looks := false }, kinds := [], alts := [], laidByText := true, laidKinds := [.data], laidTests := true, laidLooks := .later }
def RosterBackUptoCardSaid : Prop := Claim7.holds Tryd.pinned (.plain (OpenSpec.upto rosterBackSpec)) rosterBackUptoCard

/-- THE SECOND FORM's CARD OF 'earshotlaw4.RosterNamed'. -/
def rosterNamedUptoCard : Claim7 := { stood := { row := rosterNamedUptoRow, standIns := [], harness := (true, "75a1b1b8db9abb964bd5fd9d7e8503ea95bea0fb1d0348a53e55711e99b8828c"), looks := false }, kinds := [], alts := [], laidByText := true, laidKinds := [.data], laidTests := true, laidLooks := .later }
def RosterNamedUptoCardSaid : Prop := Claim7.holds Tryd.pinned (.plain (OpenSpec.upto rosterNamedSpec)) rosterNamedUptoCard
end Rows
end Go.Proofs.YtginkcjhfdoodaaDoor
