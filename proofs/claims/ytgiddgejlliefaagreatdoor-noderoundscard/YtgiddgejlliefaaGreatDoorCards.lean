/-
  DERIVED. GIVEN WITH THE SEED: THE CARDS: each row of YtgiddgejlliefaaGreatDoorRows.lean that lists a variable, with what it lists TIED to the program's text (the seventh form; the later family's looks); each row that meets fmt, with fmt's text TOLD by the authors' own Lean function (tested against real Go, not proved from fmt's source: count such statements apart). THE CARD IS WHAT COUNTS. Prove the row's statement (the work); the ties are given (YtgiddgejlliefaaGreatDoorTie.lean); close each card by the builder's one call (the guide's Derived/Test/ToyasCard.lean, 'card_holds'). Laid BY PROGRAM, IN A SANDBOX (cutbox-door.mjs). By AI agents, Wed Nov 11 2026. No macro, syntax, notation, axiom, sorry.
-/
import Derived.Test.YtgiddgejlliefaaGreatDoorRows
import GoSem.ClaimSeven
namespace Go.Proofs.YtgiddgejlliefaaGreatDoor
namespace Rows

/-- THE TIED CARD OF 'earshotlaw17.NodeRounds'. -/
def nodeRoundsCard : Claim7 := { stood := { row := nodeRoundsRow, standIns := [], harness := (true, "839874f814fddbfdb950038c0a78e33a88b4d5aa88d6d8d2fb5fc41ead00b3d9"), looks := true }, kinds := [], alts := [], laidByText := true, laidKinds := [.data, .handle, .sentinel], laidTests := true, laidLooks := .later }
def NodeRoundsCardSaid : Prop := Claim7.holds Tryz.pinned (.plain (OpenSpec.ofChange nodeRoundsSpec)) nodeRoundsCard

/-- THE TIED CARD OF 'earshotlaw17.NodeRefused'. -/
def nodeRefusedCard : Claim7 := { stood := { row := nodeRefusedRow, standIns := [], harness := (true, "839874f814fddbfdb950038c0a78e33a88b4d5aa88d6d8d2fb5fc41ead00b3d9"), looks := true }, kinds := [], alts := [], laidByText := true, laidKinds := [.data, .handle, .sentinel], laidTests := true, laidLooks := .later }
def NodeRefusedCardSaid : Prop := Claim7.holds Tryz.pinned (.plain (OpenSpec.ofChange nodeRefusedSpec)) nodeRefusedCard

/-- THE TIED CARD OF 'earshotlaw17.NodeBooks'. -/
def nodeBooksCard : Claim7 := { stood := { row := nodeBooksRow, standIns := [], harness := (true, "839874f814fddbfdb950038c0a78e33a88b4d5aa88d6d8d2fb5fc41ead00b3d9"), looks := true }, kinds := [], alts := [], laidByText := true, laidKinds := [.data, .handle, .sentinel], laidTests := true, laidLooks := .later }
def NodeBooksCardSaid : Prop := Claim7.holds Tryz.pinned (.plain (OpenSpec.ofChange nodeBooksSpec)) nodeBooksCard

/-- THE TIED CARD OF 'earshotlaw17.NodeReplies'. -/
def nodeRepliesCard : Claim7 := { stood := { row := nodeRepliesRow, standIns := [], harness := (true, "839874f814fddbfdb950038c0a78e33a88b4d5aa88d6d8d2fb5fc41ead00b3d9"), looks := true }, kinds := [], alts := [], laidByText := true, laidKinds := [.data, .handle, .sentinel], laidTests := true, laidLooks := .later }
def NodeRepliesCardSaid : Prop := Claim7.holds Tryz.pinned (.plain (OpenSpec.ofChange nodeRepliesSpec)) nodeRepliesCard

/-- THE TIED CARD OF 'earshotlaw17.NodeAsks'. -/
def nodeAsksCard : Claim7 := { stood := { row := nodeAsksRow, standIns := [], harness := (true, "839874f814fddbfdb950038c0a78e33a88b4d5aa88d6d8d2fb5fc41ead00b3d9"), looks := true }, kinds := [], alts := [], laidByText := true, laidKinds := [.data, .handle, .sentinel], laidTests := true, laidLooks := .later }
def NodeAsksCardSaid : Prop := Claim7.holds Tryz.pinned (.plain (OpenSpec.ofChange nodeAsksSpec)) nodeAsksCard

/-- THE TIED CARD OF 'earshotlaw17.NodeOpens'. -/
def nodeOpensCard : Claim7 := { stood := { row := nodeOpensRow, standIns := [], harness := (true, "839874f814fddbfdb950038c0a78e33a88b4d5aa88d6d8d2fb5fc41ead00b3d9"), looks := true }, kinds := [], alts := [], laidByText := true, laidKinds := [.data, .handle, .sentinel], laidTests := true, laidLooks := .later }
def NodeOpensCardSaid : Prop := Claim7.holds Tryz.pinned (.plain (OpenSpec.ofChange nodeOpensSpec)) nodeOpensCard

/-- THE SECOND FORM's CARD OF 'earshotlaw17.NodeRounds'. -/
def nodeRoundsUptoCard : Claim7 := { stood := { row := nodeRoundsUptoRow, standIns := [], harness := (true, "839874f814fddbfdb950038c0a78e33a88b4d5aa88d6d8d2fb5fc41ead00b3d9"), looks := true }, kinds := [], alts := [], laidByText := true, laidKinds := [.data, .handle, .sentinel], laidTests := true, laidLooks := .later }
def NodeRoundsUptoCardSaid : Prop := Claim7.holds Tryz.pinned (.plain (OpenSpec.upto nodeRoundsSpec)) nodeRoundsUptoCard

/-- THE SECOND FORM's CARD OF 'earshotlaw17.NodeRefused'. -/
def nodeRefusedUptoCard : Claim7 := { stood := { row := nodeRefusedUptoRow, standIns := [], harness := (true, "839874f814fddbfdb950038c0a78e33a88b4d5aa88d6d8d2fb5fc41ead00b3d9"), looks := true }, kinds := [], alts := [], laidByText := true, laidKinds := [.data, .handle, .sentinel], laidTests := true, laidLooks := .later }
def NodeRefusedUptoCardSaid : Prop := Claim7.holds Tryz.pinned (.plain (OpenSpec.upto nodeRefusedSpec)) nodeRefusedUptoCard

/-- THE SECOND FORM's CARD OF 'earshotlaw17.NodeBooks'. -/
def nodeBooksUptoCard : Claim7 := { stood := { row := nodeBooksUptoRow, standIns := [], harness := (true, "839874f814fddbfdb950038c0a78e33a88b4d5aa88d6d8d2fb5fc41ead00b3d9"), looks := true }, kinds := [], alts := [], laidByText := true, laidKinds := [.data, .handle, .sentinel], laidTests := true, laidLooks := .later }
def NodeBooksUptoCardSaid : Prop := Claim7.holds Tryz.pinned (.plain (OpenSpec.upto nodeBooksSpec)) nodeBooksUptoCard

/-- THE SECOND FORM's CARD OF 'earshotlaw17.NodeReplies'. -/
def nodeRepliesUptoCard : Claim7 := { stood := { row := nodeRepliesUptoRow, standIns := [], harness := (true, "839874f814fddbfdb950038c0a78e33a88b4d5aa88d6d8d2fb5fc41ead00b3d9"), looks := true }, kinds := [], alts := [], laidByText := true, laidKinds := [.data, .handle, .sentinel], laidTests := true, laidLooks := .later }
def NodeRepliesUptoCardSaid : Prop := Claim7.holds Tryz.pinned (.plain (OpenSpec.upto nodeRepliesSpec)) nodeRepliesUptoCard

/-- THE SECOND FORM's CARD OF 'earshotlaw17.NodeAsks'. -/
def nodeAsksUptoCard : Claim7 := { stood := { row := nodeAsksUptoRow, standIns := [], harness := (true, "839874f814fddbfdb950038c0a78e33a88b4d5aa88d6d8d2fb5fc41ead00b3d9"), looks := true }, kinds := [], alts := [], laidByText := true, laidKinds := [.data, .handle, .sentinel], laidTests := true, laidLooks := .later }
def NodeAsksUptoCardSaid : Prop := Claim7.holds Tryz.pinned (.plain (OpenSpec.upto nodeAsksSpec)) nodeAsksUptoCard

/-- THE SECOND FORM's CARD OF 'earshotlaw17.NodeOpens'. -/
def nodeOpensUptoCard : Claim7 := { stood := { row := nodeOpensUptoRow, standIns := [], harness := (true, "839874f814fddbfdb950038c0a78e33a88b4d5aa88d6d8d2fb5fc41ead00b3d9"), looks := true }, kinds := [], alts := [], laidByText := true, laidKinds := [.data, .handle, .sentinel], laidTests := true, laidLooks := .later }
def NodeOpensUptoCardSaid : Prop := Claim7.holds Tryz.pinned (.plain (OpenSpec.upto nodeOpensSpec)) nodeOpensUptoCard
end Rows
end Go.Proofs.YtgiddgejlliefaaGreatDoor
