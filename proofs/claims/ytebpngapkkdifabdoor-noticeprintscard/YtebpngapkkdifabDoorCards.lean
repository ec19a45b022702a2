/-
  DERIVED. GIVEN WITH THE SEED: THE CARDS: each row of YtebpngapkkdifabDoorRows.lean that lists a variable, with what it lists TIED to the program's text (the seventh form; the later family's looks); each row that meets fmt, with fmt's text TOLD by the authors' own Lean function (tested against real Go, not proved from fmt's source: count such statements apart). THE CARD IS WHAT COUNTS. Prove the row's statement (the work); the ties are given (YtebpngapkkdifabDoorTie.lean); close each card by the builder's one call (the guide's Derived/Test/ToyasCard.lean, 'card_holds'). Laid BY PROGRAM, IN A SANDBOX (cutbox-door.mjs). By AI agents, Wed Nov 11 2026. No macro, syntax, notation, axiom, sorry.
-/
import Derived.Test.YtebpngapkkdifabDoorRows
import GoSem.ClaimSeven
namespace Go.Proofs.YtebpngapkkdifabDoor
namespace Rows

/-- THE TIED CARD OF 'earshotlaw5.NoticePrints'. -/
def noticePrintsCard : Claim7 := { stood := { row := noticePrintsRow, standIns := [], harness := (true, "527e7bd0a86b1deacfe8b10021f13a8c29de85294eca110d0f48adb08199bac2"), looks := false }, kinds := [], alts := [], laidByText := true, laidKinds := [.data, .data, .data], laidTests := true, laidLooks := .later }
def NoticePrintsCardSaid : Prop := Claim7.holds Tryd.pinned (.plain (OpenSpec.ofChange noticePrintsSpec)) noticePrintsCard

/-- THE TIED CARD OF 'earshotlaw5.NoticeReads'. -/
def noticeReadsCard : Claim7 := { stood := { row := noticeReadsRow, standIns := [], harness := (true, "527e7bd0a86b1deacfe8b10021f13a8c29de85294eca110d0f48adb08199bac2"), looks := false }, kinds := [], alts := [], laidByText := true, laidKinds := [.data, .pinned], laidTests := true, laidLooks := .later }
def NoticeReadsCardSaid : Prop := Claim7.holds Tryd.pinned (.plain (OpenSpec.ofChange noticeReadsSpec)) noticeReadsCard

/-- THE SECOND FORM's CARD OF 'earshotlaw5.NoticePrints'. -/
def noticePrintsUptoCard : Claim7 := { stood := { row := noticePrintsUptoRow, standIns := [], harness := (true, "527e7bd0a86b1deacfe8b10021f13a8c29de85294eca110d0f48adb08199bac2"), looks := false }, kinds := [], alts := [], laidByText := true, laidKinds := [.data, .data, .data], laidTests := true, laidLooks := .later }
def NoticePrintsUptoCardSaid : Prop := Claim7.holds Tryd.pinned (.plain (OpenSpec.upto noticePrintsSpec)) noticePrintsUptoCard

/-- THE SECOND FORM's CARD OF 'earshotlaw5.NoticeReads'. -/
def noticeReadsUptoCard : Claim7 := { stood := { row := noticeReadsUptoRow, standIns := [], harness := (true, "527e7bd0a86b1deacfe8b10021f13a8c29de85294eca110d0f48adb08199bac2"), looks := false }, kinds := [], alts := [], laidByText := true, laidKinds := [.data, .pinned], laidTests := true, laidLooks := .later }
def NoticeReadsUptoCardSaid : Prop := Claim7.holds Tryd.pinned (.plain (OpenSpec.upto noticeReadsSpec)) noticeReadsUptoCard
end Rows
end Go.Proofs.YtebpngapkkdifabDoor
