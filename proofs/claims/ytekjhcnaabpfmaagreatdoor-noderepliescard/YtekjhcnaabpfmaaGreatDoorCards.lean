/-
  DERIVED. GIVEN WITH THE SEED: THE CARDS: each row of YtekjhcnaabpfmaaGreatDoorRows.lean that lists a variable, with what it lists TIED to the program's text (the seventh form; the later family's looks); each row that meets fmt, with fmt's text TOLD by the authors' own Lean function (tested against real Go, not proved from fmt's source: count such statements apart). THE CARD IS WHAT COUNTS. Prove the row's statement (the work); the ties are given (YtekjhcnaabpfmaaGreatDoorTie.lean); close each card by the builder's one call (the guide's Derived/Test/ToyasCard.lean, 'card_holds'). Laid BY PROGRAM, IN A SANDBOX (cutbox-door.mjs). By AI agents, Wed Nov 11 2026. No macro, syntax, notation, axiom, sorry.
-/
import Derived.Test.YtekjhcnaabpfmaaGreatDoorRows
import GoSem.ClaimSeven
namespace Go.Proofs.YtekjhcnaabpfmaaGreatDoor
namespace Rows

/-- THE TIED CARD OF 'earshotlaw17.NodeRefused'. -/
def nodeRefusedCard : Claim7 := { stood := { row := nodeRefusedRow, standIns := [], harness := (true, "5ed01d4293c54df35ded7bd9f6d869b7e3be7108dd53e61c25327d854e8c5dd7"), looks := true }, kinds := [], alts := [], laidByText := true, laidKinds := [.data, .handle, .sentinel], laidTests := true, laidLooks := .later }
def NodeRefusedCardSaid : Prop := Claim7.holds Tryz.pinned (.plain (OpenSpec.ofChange nodeRefusedSpec)) nodeRefusedCard

/-- THE TIED CARD OF 'earshotlaw17.NodeReplies'. -/
def nodeRepliesCard : Claim7 := { stood := { row := nodeRepliesRow, standIns := [], harness := (true, "5ed01d4293c54df35ded7bd9f6d869b7e3be7108dd53e61c25327d854e8c5dd7"), looks := true }, kinds := [], alts := [], laidByText := true, laidKinds := [.data, .handle, .sentinel], laidTests := true, laidLooks := .later }
def NodeRepliesCardSaid : Prop := Claim7.holds Tryz.pinned (.plain (OpenSpec.ofChange nodeRepliesSpec)) nodeRepliesCard

/-- THE TIED CARD OF 'earshotlaw17.NodeAsks'. -/
def nodeAsksCard : Claim7 := { stood := { row := nodeAsksRow, standIns := [], harness := (true, "5ed01d4293c54df35ded7bd9f6d869b7e3be7108dd53e61c25327d854e8c5dd7"), looks := true }, kinds := [], alts := [], laidByText := true, laidKinds := [.data, .handle, .sentinel], laidTests := true, laidLooks := .later }
def NodeAsksCardSaid : Prop := Claim7.holds Tryz.pinned (.plain (OpenSpec.ofChange nodeAsksSpec)) nodeAsksCard

/-- THE SECOND FORM's CARD OF 'earshotlaw17.NodeRefused'. -/
def nodeRefusedUptoCard : Claim7 := { stood := { row := nodeRefusedUptoRow, standIns := [], harness := (true, "5ed01d4293c54df35ded7bd9f6d869b7e3be7108dd53e61c25327d854e8c5dd7"), looks := true }, kinds := [], alts := [], laidByText := true, laidKinds := [.data, .handle, .sentinel], laidTests := true, laidLooks := .later }
def NodeRefusedUptoCardSaid : Prop := Claim7.holds Tryz.pinned (.plain (OpenSpec.upto nodeRefusedSpec)) nodeRefusedUptoCard

/-- THE SECOND FORM's CARD OF 'earshotlaw17.NodeReplies'. -/
def nodeRepliesUptoCard : Claim7 := { stood := { row := nodeRepliesUptoRow, standIns := [], harness := (true, "5ed01d4293c54df35ded7bd9f6d869b7e3be7108dd53e61c25327d854e8c5dd7"), looks := true }, kinds := [], alts := [], laidByText := true, laidKinds := [.data, .handle, .sentinel], laidTests := true, laidLooks := .later }
def NodeRepliesUptoCardSaid : Prop := Claim7.holds Tryz.pinned (.plain (OpenSpec.upto nodeRepliesSpec)) nodeRepliesUptoCard

/-- THE SECOND FORM's CARD OF 'earshotlaw17.NodeAsks'. -/
def nodeAsksUptoCard : Claim7 := { stood := { row := nodeAsksUptoRow, standIns := [], harness := (true, "5ed01d4293c54df35ded7bd9f6d869b7e3be7108dd53e61c25327d854e8c5dd7"), looks := true }, kinds := [], alts := [], laidByText := true, laidKinds := [.data, .handle, .sentinel], laidTests := true, laidLooks := .later }
def NodeAsksUptoCardSaid : Prop := Claim7.holds Tryz.pinned (.plain (OpenSpec.upto nodeAsksSpec)) nodeAsksUptoCard
end Rows
end Go.Proofs.YtekjhcnaabpfmaaGreatDoor
