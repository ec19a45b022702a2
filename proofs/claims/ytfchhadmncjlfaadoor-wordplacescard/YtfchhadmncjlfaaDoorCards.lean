/-
  DERIVED. GIVEN WITH THE SEED: THE CARDS: each row of YtfchhadmncjlfaaDoorRows.lean that lists a variable, with what it lists TIED to the program's text (the seventh form; the later family's looks); each row that meets fmt, with fmt's text TOLD by the authors' own Lean function (tested against real Go, not proved from fmt's source: count such statements apart). THE CARD IS WHAT COUNTS. Prove the row's statement (the work); the ties are given (YtfchhadmncjlfaaDoorTie.lean); close each card by the builder's one call (the guide's Derived/Test/ToyasCard.lean, 'card_holds'). Laid BY PROGRAM, IN A SANDBOX (cutbox-door.mjs). By AI agents, Wed Nov 11 2026. No macro, syntax, notation, axiom, sorry.
-/
import Derived.Test.YtfchhadmncjlfaaDoorRows
import GoSem.ClaimSeven
namespace Go.Proofs.YtfchhadmncjlfaaDoor
namespace Rows

/-- THE TIED CARD OF 'earshotlaw2.WordBlanks'. -/
def wordBlanksCard : Claim7 := { stood := { row := wordBlanksRow, standIns := [], harness := (true, "d77897a1457ce90c61b6938ba1d851626091d33af02dd4789beadab0b487a91f"), looks := false }, kinds := [], alts := [], laidByText := true, laidKinds := [.data, .pinned], laidTests := true, laidLooks := .later }
def WordBlanksCardSaid : Prop := Claim7.holds Tryd.pinned (.plain (OpenSpec.ofChange wordBlanksSpec)) wordBlanksCard

/-- THE TIED CARD OF 'earshotlaw2.WordPlaces'. -/
def wordPlacesCard : Claim7 := { stood := { row := wordPlacesRow, standIns := [], harness := (true, "d77897a1457ce90c61b6938ba1d851626091d33af02dd4789beadab0b487a91f"), looks := false }, kinds := [], alts := [], laidByText := true, laidKinds := [.data, .pinned], laidTests := true, laidLooks := .later }
def WordPlacesCardSaid : Prop := Claim7.holds Tryd.pinned (.plain (OpenSpec.ofChange wordPlacesSpec)) wordPlacesCard

/-- THE TIED CARD OF 'earshotlaw2.WordFound'. -/
def wordFoundCard : Claim7 := { stood := { row := wordFoundRow, standIns := [], harness := (true, "d77897a1457ce90c61b6938ba1d851626091d33af02dd4789beadab0b487a91f"), looks := false }, kinds := [], alts := [], laidByText := true, laidKinds := [.data, .pinned], laidTests := true, laidLooks := .later }
def WordFoundCardSaid : Prop := Claim7.holds Tryd.pinned (.plain (OpenSpec.ofChange wordFoundSpec)) wordFoundCard

/-- THE SECOND FORM's CARD OF 'earshotlaw2.WordBlanks'. -/
def wordBlanksUptoCard : Claim7 := { stood := { row := wordBlanksUptoRow, standIns := [], harness := (true, "d77897a1457ce90c61b6938ba1d851626091d33af02dd4789beadab0b487a91f"), looks := false }, kinds := [], alts := [], laidByText := true, laidKinds := [.data, .pinned], laidTests := true, laidLooks := .later }
def WordBlanksUptoCardSaid : Prop := Claim7.holds Tryd.pinned (.plain (OpenSpec.upto wordBlanksSpec)) wordBlanksUptoCard

/-- THE SECOND FORM's CARD OF 'earshotlaw2.WordPlaces'. -/
def wordPlacesUptoCard : Claim7 := { stood := { row := wordPlacesUptoRow, standIns := [], harness := (true, "d77897a1457ce90c61b6938ba1d851626091d33af02dd4789beadab0b487a91f"), looks := false }, kinds := [], alts := [], laidByText := true, laidKinds := [.data, .pinned], laidTests := true, laidLooks := .later }
def WordPlacesUptoCardSaid : Prop := Claim7.holds Tryd.pinned (.plain (OpenSpec.upto wordPlacesSpec)) wordPlacesUptoCard

/-- THE SECOND FORM's CARD OF 'earshotlaw2.WordFound'. -/
def wordFoundUptoCard : Claim7 := { stood := { row := wordFoundUptoRow, standIns := [], harness := (true, "d77897a1457ce90c61b6938ba1d851626091d33af02dd4789beadab0b487a91f"), looks := false }, kinds := [], alts := [], laidByText := true, laidKinds := [.data, .pinned], laidTests := true, laidLooks := .later }
def WordFoundUptoCardSaid : Prop := Claim7.holds Tryd.pinned (.plain (OpenSpec.upto wordFoundSpec)) wordFoundUptoCard
end Rows
end Go.Proofs.YtfchhadmncjlfaaDoor
