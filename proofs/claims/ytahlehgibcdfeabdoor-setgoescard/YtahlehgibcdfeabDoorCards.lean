/-
  DERIVED. GIVEN WITH THE SEED: THE CARDS: each row of YtahlehgibcdfeabDoorRows.lean that lists a variable, with what it lists TIED to the program's text (the seventh form; the later family's looks); each row that meets fmt, with fmt's text TOLD by the authors' own Lean function (tested against real Go, not proved from fmt's source: count such statements apart). THE CARD IS WHAT COUNTS. Prove the row's statement (the work); the ties are given (YtahlehgibcdfeabDoorTie.lean); close each card by the builder's one call (the guide's Derived/Test/ToyasCard.lean, 'card_holds'). Laid BY PROGRAM, IN A SANDBOX (cutbox-door.mjs). By AI agents, Wed Nov 11 2026. No macro, syntax, notation, axiom, sorry.
-/
import Derived.Test.YtahlehgibcdfeabDoorRows
import GoSem.ClaimSeven
namespace Go.Proofs.YtahlehgibcdfeabDoor
namespace Rows

/-- THE TIED CARD OF 'earshotlaw3.SetOnes'. -/
def setOnesCard : Claim7 := { stood := { row := setOnesRow, standIns := [], harness := (true, "5f82106188961b54f33832bd346b1f97e4ed19f7e3f38046201299d39cb02b44"), looks := false }, kinds := [], alts := [], laidByText := true, laidKinds := [.data], laidTests := true, laidLooks := .later }
def SetOnesCardSaid : Prop := Claim7.holds Tryd.pinned (.plain (OpenSpec.ofChange setOnesSpec)) setOnesCard

/-- THE TIED CARD OF 'earshotlaw3.SetGoes'. -/
def setGoesCard : Claim7 := { stood := { row := setGoesRow, standIns := [], harness := (true, "5f82106188961b54f33832bd346b1f97e4ed19f7e3f38046201299d39cb02b44"), looks := false }, kinds := [], alts := [], laidByText := true, laidKinds := [.data], laidTests := true, laidLooks := .later }
def SetGoesCardSaid : Prop := Claim7.holds Tryd.pinned (.plain (OpenSpec.ofChange setGoesSpec)) setGoesCard

/-- THE TIED CARD OF 'earshotlaw3.SetAll'. -/
def setAllCard : Claim7 := { stood := { row := setAllRow, standIns := [], harness := (true, "5f82106188961b54f33832bd346b1f97e4ed19f7e3f38046201299d39cb02b44"), looks := false }, kinds := [], alts := [], laidByText := true, laidKinds := [.data], laidTests := true, laidLooks := .later }
def SetAllCardSaid : Prop := Claim7.holds Tryd.pinned (.plain (OpenSpec.ofChange setAllSpec)) setAllCard

/-- THE SECOND FORM's CARD OF 'earshotlaw3.SetOnes'. -/
def setOnesUptoCard : Claim7 := { stood := { row := setOnesUptoRow, standIns := [], harness := (true, "5f82106188961b54f33832bd346b1f97e4ed19f7e3f38046201299d39cb02b44"), looks := false }, kinds := [], alts := [], laidByText := true, laidKinds := [.data], laidTests := true, laidLooks := .later }
def SetOnesUptoCardSaid : Prop := Claim7.holds Tryd.pinned (.plain (OpenSpec.upto setOnesSpec)) setOnesUptoCard

/-- THE SECOND FORM's CARD OF 'earshotlaw3.SetGoes'. -/
def setGoesUptoCard : Claim7 := { stood := { row := setGoesUptoRow, standIns := [], harness := (true, "5f82106188961b54f33832bd346b1f97e4ed19f7e3f38046201299d39cb02b44"), looks := false }, kinds := [], alts := [], laidByText := true, laidKinds := [.data], laidTests := true, laidLooks := .later }
def SetGoesUptoCardSaid : Prop := Claim7.holds Tryd.pinned (.plain (OpenSpec.upto setGoesSpec)) setGoesUptoCard

/-- THE SECOND FORM's CARD OF 'earshotlaw3.SetAll'. -/
def setAllUptoCard : Claim7 := { stood := { row := setAllUptoRow, standIns := [], harness := (true, "5f82106188961b54f33832bd346b1f97e4ed19f7e3f38046201299d39cb02b44"), looks := false }, kinds := [], alts := [], laidByText := true, laidKinds := [.data], laidTests := true, laidLooks := .later }
def SetAllUptoCardSaid : Prop := Claim7.holds Tryd.pinned (.plain (OpenSpec.upto setAllSpec)) setAllUptoCard
end Rows
end Go.Proofs.YtahlehgibcdfeabDoor
