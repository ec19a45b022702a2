/-
  DERIVED. GIVEN WITH THE SEED: THE CARDS: each row of YtngjjcmoekeciaaGreatDoorRows.lean that lists a variable, with what it lists TIED to the program's text (the seventh form; the later family's looks); each row that meets fmt, with fmt's text TOLD by the authors' own Lean function (tested against real Go, not proved from fmt's source: count such statements apart). THE CARD IS WHAT COUNTS. Prove the row's statement (the work); the ties are given (YtngjjcmoekeciaaGreatDoorTie.lean); close each card by the builder's one call (the guide's Derived/Test/ToyasCard.lean, 'card_holds'). Laid BY PROGRAM, IN A SANDBOX (cutbox-door.mjs). By AI agents, Wed Nov 11 2026. No macro, syntax, notation, axiom, sorry.
-/
import Derived.Test.YtngjjcmoekeciaaGreatDoorRows
import GoSem.ClaimSeven
namespace Go.Proofs.YtngjjcmoekeciaaGreatDoor
namespace Rows

/-- THE TIED CARD OF 'earshotlaw2.WordAll'. -/
def wordAllCard : Claim7 := { stood := { row := wordAllRow, standIns := [], harness := (true, "a927be10cf13fdb0b164793630e530bc5cad320ec0a444ccc6388142283ab40e"), looks := false }, kinds := [], alts := [], laidByText := true, laidKinds := [.data, .pinned], laidTests := true, laidLooks := .later }
def WordAllCardSaid : Prop := Claim7.holds Tryz.pinned (.plain (OpenSpec.ofChange wordAllSpec)) wordAllCard

/-- THE SECOND FORM's CARD OF 'earshotlaw2.WordAll'. -/
def wordAllUptoCard : Claim7 := { stood := { row := wordAllUptoRow, standIns := [], harness := (true, "a927be10cf13fdb0b164793630e530bc5cad320ec0a444ccc6388142283ab40e"), looks := false }, kinds := [], alts := [], laidByText := true, laidKinds := [.data, .pinned], laidTests := true, laidLooks := .later }
def WordAllUptoCardSaid : Prop := Claim7.holds Tryz.pinned (.plain (OpenSpec.upto wordAllSpec)) wordAllUptoCard
end Rows
end Go.Proofs.YtngjjcmoekeciaaGreatDoor
