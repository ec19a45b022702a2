/-
  DERIVED. GIVEN WITH THE SEED: THE CARDS: each row of YtnkpohkodkjkfaaGreatDoorRows.lean that lists a variable, with what it lists TIED to the program's text (the seventh form; the later family's looks); each row that meets fmt, with fmt's text TOLD by the authors' own Lean function (tested against real Go, not proved from fmt's source: count such statements apart). THE CARD IS WHAT COUNTS. Prove the row's statement (the work); the ties are given (YtnkpohkodkjkfaaGreatDoorTie.lean); close each card by the builder's one call (the guide's Derived/Test/ToyasCard.lean, 'card_holds'). Laid BY PROGRAM, IN A SANDBOX (cutbox-door.mjs). By AI agents, Wed Nov 11 2026. No macro, syntax, notation, axiom, sorry.
-/
import Derived.Test.YtnkpohkodkjkfaaGreatDoorRows
import GoSem.ClaimSeven
namespace Go.Proofs.YtnkpohkodkjkfaaGreatDoor
namespace Rows

/-- THE TIED CARD OF 'earshotlaw8.TellBack'. -/
def tellBackCard : Claim7 := { stood := { row := tellBackRow, standIns := [], harness := (true, "28135959c56a8d2661618a5af8ea8c023547703134b84e54f72eda428b255e1e"), looks := true }, kinds := [], alts := [], laidByText := true, laidKinds := [.data, .data, .data, .data, .pinned], laidTests := true, laidLooks := .later }
def TellBackCardSaid : Prop := Claim7.holds Tryz.pinned (.plain (OpenSpec.ofChange tellBackSpec)) tellBackCard

/-- THE TIED CARD OF 'earshotlaw8.TellBytes'. -/
def tellBytesCard : Claim7 := { stood := { row := tellBytesRow, standIns := [], harness := (true, "28135959c56a8d2661618a5af8ea8c023547703134b84e54f72eda428b255e1e"), looks := true }, kinds := [], alts := [], laidByText := true, laidKinds := [.data, .data, .data, .data, .pinned], laidTests := true, laidLooks := .later }
def TellBytesCardSaid : Prop := Claim7.holds Tryz.pinned (.plain (OpenSpec.ofChange tellBytesSpec)) tellBytesCard

/-- THE TIED CARD OF 'earshotlaw8.TellNamed'. -/
def tellNamedCard : Claim7 := { stood := { row := tellNamedRow, standIns := [], harness := (true, "28135959c56a8d2661618a5af8ea8c023547703134b84e54f72eda428b255e1e"), looks := true }, kinds := [], alts := [], laidByText := true, laidKinds := [.data, .data, .data, .data, .pinned], laidTests := true, laidLooks := .later }
def TellNamedCardSaid : Prop := Claim7.holds Tryz.pinned (.plain (OpenSpec.ofChange tellNamedSpec)) tellNamedCard

/-- THE TIED CARD OF 'earshotlaw8.TellPrints'. -/
def tellPrintsCard : Claim7 := { stood := { row := tellPrintsRow, standIns := [], harness := (true, "28135959c56a8d2661618a5af8ea8c023547703134b84e54f72eda428b255e1e"), looks := true }, kinds := [], alts := [], laidByText := true, laidKinds := [.data, .data, .data, .data, .pinned], laidTests := true, laidLooks := .later }
def TellPrintsCardSaid : Prop := Claim7.holds Tryz.pinned (.plain (OpenSpec.ofChange tellPrintsSpec)) tellPrintsCard

/-- THE SECOND FORM's CARD OF 'earshotlaw8.TellBack'. -/
def tellBackUptoCard : Claim7 := { stood := { row := tellBackUptoRow, standIns := [], harness := (true, "28135959c56a8d2661618a5af8ea8c023547703134b84e54f72eda428b255e1e"), looks := true }, kinds := [], alts := [], laidByText := true, laidKinds := [.data, .data, .data, .data, .pinned], laidTests := true, laidLooks := .later }
def TellBackUptoCardSaid : Prop := Claim7.holds Tryz.pinned (.plain (OpenSpec.upto tellBackSpec)) tellBackUptoCard

/-- THE SECOND FORM's CARD OF 'earshotlaw8.TellBytes'. -/
def tellBytesUptoCard : Claim7 := { stood := { row := tellBytesUptoRow, standIns := [], harness := (true, "28135959c56a8d2661618a5af8ea8c023547703134b84e54f72eda428b255e1e"), looks := true }, kinds := [], alts := [], laidByText := true, laidKinds := [.data, .data, .data, .data, .pinned], laidTests := true, laidLooks := .later }
def TellBytesUptoCardSaid : Prop := Claim7.holds Tryz.pinned (.plain (OpenSpec.upto tellBytesSpec)) tellBytesUptoCard

/-- THE SECOND FORM's CARD OF 'earshotlaw8.TellNamed'. -/
def tellNamedUptoCard : Claim7 := { stood := { row := tellNamedUptoRow, standIns := [], harness := (true, "28135959c56a8d2661618a5af8ea8c023547703134b84e54f72eda428b255e1e"), looks := true }, kinds := [], alts := [], laidByText := true, laidKinds := [.data, .data, .data, .data, .pinned], laidTests := true, laidLooks := .later }
def TellNamedUptoCardSaid : Prop := Claim7.holds Tryz.pinned (.plain (OpenSpec.upto tellNamedSpec)) tellNamedUptoCard

/-- THE SECOND FORM's CARD OF 'earshotlaw8.TellPrints'. -/
def tellPrintsUptoCard : Claim7 := { stood := { row := tellPrintsUptoRow, standIns := [], harness := (true, "28135959c56a8d2661618a5af8ea8c023547703134b84e54f72eda428b255e1e"), looks := true }, kinds := [], alts := [], laidByText := true, laidKinds := [.data, .data, .data, .data, .pinned], laidTests := true, laidLooks := .later }
def TellPrintsUptoCardSaid : Prop := Claim7.holds Tryz.pinned (.plain (OpenSpec.upto tellPrintsSpec)) tellPrintsUptoCard
end Rows
end Go.Proofs.YtnkpohkodkjkfaaGreatDoor
