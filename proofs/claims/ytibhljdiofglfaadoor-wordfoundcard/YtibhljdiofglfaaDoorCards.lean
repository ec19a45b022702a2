/-
  DERIVED. GIVEN WITH THE SEED: THE CARDS: each row of YtibhljdiofglfaaDoorRows.lean that lists a variable, with what it lists TIED to the program's text (the seventh form; the later family's looks); each row that meets fmt, with fmt's text TOLD by the authors' own Lean function (tested against real Go, not proved from fmt's source: count such statements apart). THE CARD IS WHAT COUNTS. Prove the row's statement (the work); the ties are given (YtibhljdiofglfaaDoorTie.lean); close each card by the builder's one call (the guide's Derived/Test/ToyasCard.lean, 'card_holds'). Laid BY PROGRAM, IN A SANDBOX (cutbox-door.mjs). By AI agents, Wed Nov 11 2026. No macro, syntax, notation, axiom, sorry.
-/
import Derived.Test.YtibhljdiofglfaaDoorRows
import GoSem.ClaimSeven
namespace Go.Proofs.YtibhljdiofglfaaDoor
namespace Rows

/-- THE TIED CARD OF 'earshotlaw2.WordBack'. -/
def wordBackCard : Claim7 := { stood := { row := wordBackRow, standIns := [], harness := (true, "997cb61f626bbeca65f6e5b32c5c8ee889106521db348261eb31df427ee72416"), looks := false }, kinds := [], alts := [], laidByText := true, laidKinds := [.data, .pinned], laidTests := true, laidLooks := .later }
def WordBackCardSaid : Prop := Claim7.holds Tryd.pinned (.plain (OpenSpec.ofChange wordBackSpec)) wordBackCard

/-- THE TIED CARD OF 'earshotlaw2.WordBlanks'. -/
def wordBlanksCard : Claim7 := { stood := { row := wordBlanksRow, standIns := [], harness := (true, "997cb61f626bbeca65f6e5b32c5c8ee889106521db348261eb31df427ee72416"), looks := false }, kinds := [], alts := [], laidByText := true, laidKinds := [.data, .pinned], laidTests := true, laidLooks := .later }
def WordBlanksCardSaid : Prop := Claim7.holds Tryd.pinned (.plain (OpenSpec.ofChange wordBlanksSpec)) wordBlanksCard

/-- THE TIED CARD OF 'earshotlaw2.WordPlaces'. -/
def wordPlacesCard : Claim7 := { stood := { row := wordPlacesRow, standIns := [], harness := (true, "997cb61f626bbeca65f6e5b32c5c8ee889106521db348261eb31df427ee72416"), looks := false }, kinds := [], alts := [], laidByText := true, laidKinds := [.data, .pinned], laidTests := true, laidLooks := .later }
def WordPlacesCardSaid : Prop := Claim7.holds Tryd.pinned (.plain (OpenSpec.ofChange wordPlacesSpec)) wordPlacesCard

/-- THE TIED CARD OF 'earshotlaw2.WordFound'. -/
def wordFoundCard : Claim7 := { stood := { row := wordFoundRow, standIns := [], harness := (true, "997cb61f626bbeca65f6e5b32c5c8ee889106521db348261eb31df427ee72416"), looks := false }, kinds := [], alts := [], laidByText := true, laidKinds := [.data, .pinned], laidTests := true, laidLooks := .later }
def WordFoundCardSaid : Prop := Claim7.holds Tryd.pinned (.plain (OpenSpec.ofChange wordFoundSpec)) wordFoundCard

/-- THE TIED CARD OF 'earshotlaw2.WordDigits'. -/
def wordDigitsCard : Claim7 := { stood := { row := wordDigitsRow, standIns := [], harness := (true, "997cb61f626bbeca65f6e5b32c5c8ee889106521db348261eb31df427ee72416"), looks := false }, kinds := [], alts := [], laidByText := true, laidKinds := [.data, .pinned], laidTests := true, laidLooks := .later }
def WordDigitsCardSaid : Prop := Claim7.holds Tryd.pinned (.plain (OpenSpec.ofChange wordDigitsSpec)) wordDigitsCard

/-- THE TIED CARD OF 'earshotlaw2.WordScans'. -/
def wordScansCard : Claim7 := { stood := { row := wordScansRow, standIns := [], harness := (true, "997cb61f626bbeca65f6e5b32c5c8ee889106521db348261eb31df427ee72416"), looks := false }, kinds := [], alts := [], laidByText := true, laidKinds := [.data, .pinned], laidTests := true, laidLooks := .later }
def WordScansCardSaid : Prop := Claim7.holds Tryd.pinned (.plain (OpenSpec.ofChange wordScansSpec)) wordScansCard

/-- THE SECOND FORM's CARD OF 'earshotlaw2.WordBack'. -/
def wordBackUptoCard : Claim7 := { stood := { row := wordBackUptoRow, standIns := [], harness := (true, "997cb61f626bbeca65f6e5b32c5c8ee889106521db348261eb31df427ee72416"), looks := false }, kinds := [], alts := [], laidByText := true, laidKinds := [.data, .pinned], laidTests := true, laidLooks := .later }
def WordBackUptoCardSaid : Prop := Claim7.holds Tryd.pinned (.plain (OpenSpec.upto wordBackSpec)) wordBackUptoCard

/-- THE SECOND FORM's CARD OF 'earshotlaw2.WordBlanks'. -/
def wordBlanksUptoCard : Claim7 := { stood := { row := wordBlanksUptoRow, standIns := [], harness := (true, "997cb61f626bbeca65f6e5b32c5c8ee889106521db348261eb31df427ee72416"), looks := false }, kinds := [], alts := [], laidByText := true, laidKinds := [.data, .pinned], laidTests := true, laidLooks := .later }
def WordBlanksUptoCardSaid : Prop := Claim7.holds Tryd.pinned (.plain (OpenSpec.upto wordBlanksSpec)) wordBlanksUptoCard

/-- THE SECOND FORM's CARD OF 'earshotlaw2.WordPlaces'. -/
def wordPlacesUptoCard : Claim7 := { stood := { row := wordPlacesUptoRow, standIns := [], harness := (true, "997cb61f626bbeca65f6e5b32c5c8ee889106521db348261eb31df427ee72416"), looks := false }, kinds := [], alts := [], laidByText := true, laidKinds := [.data, .pinned], laidTests := true, laidLooks := .later }
def WordPlacesUptoCardSaid : Prop := Claim7.holds Tryd.pinned (.plain (OpenSpec.upto wordPlacesSpec)) wordPlacesUptoCard

/-- THE SECOND FORM's CARD OF 'earshotlaw2.WordFound'. -/
def wordFoundUptoCard : Claim7 := { stood := { row := wordFoundUptoRow, standIns := [], harness := (true, "997cb61f626bbeca65f6e5b32c5c8ee889106521db348261eb31df427ee72416"), looks := false }, kinds := [], alts := [], laidByText := true, laidKinds := [.data, .pinned], laidTests := true, laidLooks := .later }
def WordFoundUptoCardSaid : Prop := Claim7.holds Tryd.pinned (.plain (OpenSpec.upto wordFoundSpec)) wordFoundUptoCard

/-- THE SECOND FORM's CARD OF 'earshotlaw2.WordDigits'. -/
def wordDigitsUptoCard : Claim7 := { stood := { row := wordDigitsUptoRow, standIns := [], harness := (true, "997cb61f626bbeca65f6e5b32c5c8ee889106521db348261eb31df427ee72416"), looks := false }, kinds := [], alts := [], laidByText := true, laidKinds := [.data, .pinned], laidTests := true, laidLooks := .later }
def WordDigitsUptoCardSaid : Prop := Claim7.holds Tryd.pinned (.plain (OpenSpec.upto wordDigitsSpec)) wordDigitsUptoCard

/-- THE SECOND FORM's CARD OF 'earshotlaw2.WordScans'. -/
def wordScansUptoCard : Claim7 := { stood := { row := wordScansUptoRow, standIns := [], harness := (true, "997cb61f626bbeca65f6e5b32c5c8ee889106521db348261eb31df427ee72416"), looks := false }, kinds := [], alts := [], laidByText := true, laidKinds := [.data, .pinned], laidTests := true, laidLooks := .later }
def WordScansUptoCardSaid : Prop := Claim7.holds Tryd.pinned (.plain (OpenSpec.upto wordScansSpec)) wordScansUptoCard
end Rows
end Go.Proofs.YtibhljdiofglfaaDoor
