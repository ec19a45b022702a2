/-
  DERIVED. GIVEN WITH THE SEED: THE CARDS: each row of YtjpfojnjemfegaaDoorRows.lean that lists a variable, with what it lists TIED to the program's text (the seventh form; the later family's looks); each row that meets fmt, with fmt's text TOLD by the authors' own Lean function (tested against real Go, not proved from fmt's source: count such statements apart). THE CARD IS WHAT COUNTS. Prove the row's statement (the work); the ties are given (YtjpfojnjemfegaaDoorTie.lean); close each card by the builder's one call (the guide's Derived/Test/ToyasCard.lean, 'card_holds'). Laid BY PROGRAM, IN A SANDBOX (cutbox-door.mjs). By AI agents, Wed Nov 11 2026. No macro, syntax, notation, axiom, sorry.
-/
import Derived.Test.YtjpfojnjemfegaaDoorRows
import GoSem.ClaimSeven
namespace Go.Proofs.YtjpfojnjemfegaaDoor
namespace Rows

/-- THE TIED CARD OF 'earshotlaw2.WordBlanks'. -/
def wordBlanksCard : Claim7 := { stood := { row := wordBlanksRow, standIns := [], harness := (true, "1109bca744d15f9459a8b85d5f6b866ce6d050d5ee282424cfc231d03137b278"), looks := false }, kinds := [], alts := [], laidByText := true, laidKinds := [.data, .pinned], laidTests := true, laidLooks := .later }
def WordBlanksCardSaid : Prop := Claim7.holds Tryd.pinned (.plain (OpenSpec.ofChange wordBlanksSpec)) wordBlanksCard

/-- THE TIED CARD OF 'earshotlaw2.WordScans'. -/
def wordScansCard : Claim7 := { stood := { row := wordScansRow, standIns := [], harness := (true, "1109bca744d15f9459a8b85d5f6b866ce6d050d5ee282424cfc231d03137b278"), looks := false }, kinds := [], alts := [], laidByText := true, laidKinds := [.data, .pinned], laidTests := true, laidLooks := .later }
def WordScansCardSaid : Prop := Claim7.holds Tryd.pinned (.plain (OpenSpec.ofChange wordScansSpec)) wordScansCard

/-- THE SECOND FORM's CARD OF 'earshotlaw2.WordBlanks'. -/
def wordBlanksUptoCard : Claim7 := { stood := { row := wordBlanksUptoRow, standIns := [], harness := (true, "1109bca744d15f9459a8b85d5f6b866ce6d050d5ee282424cfc231d03137b278"), looks := false }, kinds := [], alts := [], laidByText := true, laidKinds := [.data, .pinned], laidTests := true, laidLooks := .later }
def WordBlanksUptoCardSaid : Prop := Claim7.holds Tryd.pinned (.plain (OpenSpec.upto wordBlanksSpec)) wordBlanksUptoCard

/-- THE SECOND FORM's CARD OF 'earshotlaw2.WordScans'. -/
def wordScansUptoCard : Claim7 := { stood := { row := wordScansUptoRow, standIns := [], harness := (true, "1109bca744d15f9459a8b85d5f6b866ce6d050d5ee282424cfc231d03137b278"), looks := false }, kinds := [], alts := [], laidByText := true, laidKinds := [.data, .pinned], laidTests := true, laidLooks := .later }
def WordScansUptoCardSaid : Prop := Claim7.holds Tryd.pinned (.plain (OpenSpec.upto wordScansSpec)) wordScansUptoCard
end Rows
end Go.Proofs.YtjpfojnjemfegaaDoor
