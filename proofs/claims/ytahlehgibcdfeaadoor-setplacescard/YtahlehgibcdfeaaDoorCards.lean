/-
  DERIVED. GIVEN WITH THE SEED: THE CARDS: each row of YtahlehgibcdfeaaDoorRows.lean that lists a variable, with what it lists TIED to the program's text (the seventh form; the later family's looks); each row that meets fmt, with fmt's text TOLD by the authors' own Lean function (tested against real Go, not proved from fmt's source: count such statements apart). THE CARD IS WHAT COUNTS. Prove the row's statement (the work); the ties are given (YtahlehgibcdfeaaDoorTie.lean); close each card by the builder's one call (the guide's Derived/Test/ToyasCard.lean, 'card_holds'). Laid BY PROGRAM, IN A SANDBOX (cutbox-door.mjs). By AI agents, Wed Nov 11 2026. No macro, syntax, notation, axiom, sorry.
-/
import Derived.Test.YtahlehgibcdfeaaDoorRows
import GoSem.ClaimSeven
namespace Go.Proofs.YtahlehgibcdfeaaDoor
namespace Rows

/-- THE TIED CARD OF 'earshotlaw3.SetPlaces'. -/
def setPlacesCard : Claim7 := { stood := { row := setPlacesRow, standIns := [], harness := (true, "ab9dd63586333e244ff8d78e7670b4c950c826a4a67afdc2dfd72f7e9f534053"), looks := false }, kinds := [], alts := [], laidByText := true, laidKinds := [.data], laidTests := true, laidLooks := .later }
def SetPlacesCardSaid : Prop := Claim7.holds Tryd.pinned (.plain (OpenSpec.ofChange setPlacesSpec)) setPlacesCard

/-- THE TIED CARD OF 'earshotlaw3.SetQuorums'. -/
def setQuorumsCard : Claim7 := { stood := { row := setQuorumsRow, standIns := [], harness := (true, "ab9dd63586333e244ff8d78e7670b4c950c826a4a67afdc2dfd72f7e9f534053"), looks := false }, kinds := [], alts := [], laidByText := true, laidKinds := [.data], laidTests := true, laidLooks := .later }
def SetQuorumsCardSaid : Prop := Claim7.holds Tryd.pinned (.plain (OpenSpec.ofChange setQuorumsSpec)) setQuorumsCard

/-- THE SECOND FORM's CARD OF 'earshotlaw3.SetPlaces'. -/
def setPlacesUptoCard : Claim7 := { stood := { row := setPlacesUptoRow, standIns := [], harness := (true, "ab9dd63586333e244ff8d78e7670b4c950c826a4a67afdc2dfd72f7e9f534053"), looks := false }, kinds := [], alts := [], laidByText := true, laidKinds := [.data], laidTests := true, laidLooks := .later }
def SetPlacesUptoCardSaid : Prop := Claim7.holds Tryd.pinned (.plain (OpenSpec.upto setPlacesSpec)) setPlacesUptoCard

/-- THE SECOND FORM's CARD OF 'earshotlaw3.SetQuorums'. -/
def setQuorumsUptoCard : Claim7 := { stood := { row := setQuorumsUptoRow, standIns := [], harness := (true, "ab9dd63586333e244ff8d78e7670b4c950c826a4a67afdc2dfd72f7e9f534053"), looks := false }, kinds := [], alts := [], laidByText := true, laidKinds := [.data], laidTests := true, laidLooks := .later }
def SetQuorumsUptoCardSaid : Prop := Claim7.holds Tryd.pinned (.plain (OpenSpec.upto setQuorumsSpec)) setQuorumsUptoCard
end Rows
end Go.Proofs.YtahlehgibcdfeaaDoor
