/-
  DERIVED. GIVEN WITH THE SEED: THE CARDS: each row of YtmahamdmapbilaaGreatDoorRows.lean that lists a variable, with what it lists TIED to the program's text (the seventh form; the later family's looks); each row that meets fmt, with fmt's text TOLD by the authors' own Lean function (tested against real Go, not proved from fmt's source: count such statements apart). THE CARD IS WHAT COUNTS. Prove the row's statement (the work); the ties are given (YtmahamdmapbilaaGreatDoorTie.lean); close each card by the builder's one call (the guide's Derived/Test/ToyasCard.lean, 'card_holds'). Laid BY PROGRAM, IN A SANDBOX (cutbox-door.mjs). By AI agents, Wed Nov 11 2026. No macro, syntax, notation, axiom, sorry.
-/
import Derived.Test.YtmahamdmapbilaaGreatDoorRows
import GoSem.ClaimSeven
namespace Go.Proofs.YtmahamdmapbilaaGreatDoor
namespace Rows

/-- THE TIED CARD OF 'earshotlaw8.TellOnce'. -/
def tellOnceCard : Claim7 := { stood := { row := tellOnceRow, standIns := [], harness := (true, "2dde5e618d5576d52211e791b676e7f6a37e0a0809c2c81d43f5c5d12d406039"), looks := true }, kinds := [], alts := [], laidByText := true, laidKinds := [.data, .data, .data, .data, .pinned], laidTests := true, laidLooks := .later }
def TellOnceCardSaid : Prop := Claim7.holds Tryz.pinned (.plain (OpenSpec.ofChange tellOnceSpec)) tellOnceCard

/-- THE TIED CARD OF 'earshotlaw8.TellReads'. -/
def tellReadsCard : Claim7 := { stood := { row := tellReadsRow, standIns := [], harness := (true, "2dde5e618d5576d52211e791b676e7f6a37e0a0809c2c81d43f5c5d12d406039"), looks := true }, kinds := [], alts := [], laidByText := true, laidKinds := [.data, .data, .data, .data, .pinned], laidTests := true, laidLooks := .later }
def TellReadsCardSaid : Prop := Claim7.holds Tryz.pinned (.plain (OpenSpec.ofChange tellReadsSpec)) tellReadsCard

/-- THE TIED CARD OF 'earshotlaw8.TellAll'. -/
def tellAllCard : Claim7 := { stood := { row := tellAllRow, standIns := [], harness := (true, "2dde5e618d5576d52211e791b676e7f6a37e0a0809c2c81d43f5c5d12d406039"), looks := true }, kinds := [], alts := [], laidByText := true, laidKinds := [.data, .data, .data, .data, .pinned], laidTests := true, laidLooks := .later }
def TellAllCardSaid : Prop := Claim7.holds Tryz.pinned (.plain (OpenSpec.ofChange tellAllSpec)) tellAllCard

/-- THE SECOND FORM's CARD OF 'earshotlaw8.TellOnce'. -/
def tellOnceUptoCard : Claim7 := { stood := { row := tellOnceUptoRow, standIns := [], harness := (true, "2dde5e618d5576d52211e791b676e7f6a37e0a0809c2c81d43f5c5d12d406039"), looks := true }, kinds := [], alts := [], laidByText := true, laidKinds := [.data, .data, .data, .data, .pinned], laidTests := true, laidLooks := .later }
def TellOnceUptoCardSaid : Prop := Claim7.holds Tryz.pinned (.plain (OpenSpec.upto tellOnceSpec)) tellOnceUptoCard

/-- THE SECOND FORM's CARD OF 'earshotlaw8.TellReads'. -/
def tellReadsUptoCard : Claim7 := { stood := { row := tellReadsUptoRow, standIns := [], harness := (true, "2dde5e618d5576d52211e791b676e7f6a37e0a0809c2c81d43f5c5d12d406039"), looks := true }, kinds := [], alts := [], laidByText := true, laidKinds := [.data, .data, .data, .data, .pinned], laidTests := true, laidLooks := .later }
def TellReadsUptoCardSaid : Prop := Claim7.holds Tryz.pinned (.plain (OpenSpec.upto tellReadsSpec)) tellReadsUptoCard

/-- THE SECOND FORM's CARD OF 'earshotlaw8.TellAll'. -/
def tellAllUptoCard : Claim7 := { stood := { row := tellAllUptoRow, standIns := [], harness := (true, "2dde5e618d5576d52211e791b676e7f6a37e0a0809c2c81d43f5c5d12d406039"), looks := true }, kinds := [], alts := [], laidByText := true, laidKinds := [.data, .data, .data, .data, .pinned], laidTests := true, laidLooks := .later }
def TellAllUptoCardSaid : Prop := Claim7.holds Tryz.pinned (.plain (OpenSpec.upto tellAllSpec)) tellAllUptoCard
end Rows
end Go.Proofs.YtmahamdmapbilaaGreatDoor
