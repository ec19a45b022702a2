/-
  DERIVED. GIVEN WITH THE SEED: THE CARDS: each row of YtgngopdkfcmndaaGreatDoorRows.lean that lists a variable, with what it lists TIED to the program's text (the seventh form; the later family's looks); each row that meets fmt, with fmt's text TOLD by the authors' own Lean function (tested against real Go, not proved from fmt's source: count such statements apart). THE CARD IS WHAT COUNTS. Prove the row's statement (the work); the ties are given (YtgngopdkfcmndaaGreatDoorTie.lean); close each card by the builder's one call (the guide's Derived/Test/ToyasCard.lean, 'card_holds'). Laid BY PROGRAM, IN A SANDBOX (cutbox-door.mjs). By AI agents, Wed Nov 11 2026. No macro, syntax, notation, axiom, sorry.
-/
import Derived.Test.YtgngopdkfcmndaaGreatDoorRows
import GoSem.ClaimSeven
namespace Go.Proofs.YtgngopdkfcmndaaGreatDoor
namespace Rows

/-- THE TIED CARD OF 'earshotlaw17.NodeBooks'. -/
def nodeBooksCard : Claim7 := { stood := { row := nodeBooksRow, standIns := [], harness := (true, "27bc3774d283df1a4b623c230f6115c432fc704e2ce3e2085ba98446986457ba"), looks := true }, kinds := [], alts := [], laidByText := true, laidKinds := [.data, .handle, .sentinel], laidTests := true, laidLooks := .later }
def NodeBooksCardSaid : Prop := Claim7.holds Tryz.pinned (.plain (OpenSpec.ofChange nodeBooksSpec)) nodeBooksCard

/-- THE TIED CARD OF 'earshotlaw17.NodeNone'. -/
def nodeNoneCard : Claim7 := { stood := { row := nodeNoneRow, standIns := [], harness := (true, "27bc3774d283df1a4b623c230f6115c432fc704e2ce3e2085ba98446986457ba"), looks := true }, kinds := [], alts := [], laidByText := true, laidKinds := [.data, .handle, .sentinel], laidTests := true, laidLooks := .later }
def NodeNoneCardSaid : Prop := Claim7.holds Tryz.pinned (.plain (OpenSpec.ofChange nodeNoneSpec)) nodeNoneCard

/-- THE SECOND FORM's CARD OF 'earshotlaw17.NodeBooks'. -/
def nodeBooksUptoCard : Claim7 := { stood := { row := nodeBooksUptoRow, standIns := [], harness := (true, "27bc3774d283df1a4b623c230f6115c432fc704e2ce3e2085ba98446986457ba"), looks := true }, kinds := [], alts := [], laidByText := true, laidKinds := [.data, .handle, .sentinel], laidTests := true, laidLooks := .later }
def NodeBooksUptoCardSaid : Prop := Claim7.holds Tryz.pinned (.plain (OpenSpec.upto nodeBooksSpec)) nodeBooksUptoCard

/-- THE SECOND FORM's CARD OF 'earshotlaw17.NodeNone'. -/
def nodeNoneUptoCard : Claim7 := { stood := { row := nodeNoneUptoRow, standIns := [], harness := (true, "27bc3774d283df1a4b623c230f6115c432fc704e2ce3e2085ba98446986457ba"), looks := true }, kinds := [], alts := [], laidByText := true, laidKinds := [.data, .handle, .sentinel], laidTests := true, laidLooks := .later }
def NodeNoneUptoCardSaid : Prop := Claim7.holds Tryz.pinned (.plain (OpenSpec.upto nodeNoneSpec)) nodeNoneUptoCard
end Rows
end Go.Proofs.YtgngopdkfcmndaaGreatDoor
