/-
  DERIVED. GIVEN WITH THE SEED: THE CARDS: each row of YtebpngapkkdifaaDoorRows.lean that lists a variable, with what it lists TIED to the program's text (the seventh form; the later family's looks); each row that meets fmt, with fmt's text TOLD by the authors' own Lean function (tested against real Go, not proved from fmt's source: count such statements apart). THE CARD IS WHAT COUNTS. Prove the row's statement (the work); the ties are given (YtebpngapkkdifaaDoorTie.lean); close each card by the builder's one call (the guide's Derived/Test/ToyasCard.lean, 'card_holds'). Laid BY PROGRAM, IN A SANDBOX (cutbox-door.mjs). By AI agents, Wed Nov 11 2026. No macro, syntax, notation, axiom, sorry.
-/
import Derived.Test.YtebpngapkkdifaaDoorRows
import GoSem.ClaimSeven
namespace Go.Proofs.YtebpngapkkdifaaDoor
namespace Rows

/-- THE TIED CARD OF 'earshotlaw5.NoticeBack'. -/
def noticeBackCard : Claim7 := { stood := { row := noticeBackRow, standIns := [], harness := (true, "0a37b18e3e73f25152aa61688aec0802900b7419edb4f4f9ca2492ee12e4b976"), looks := false }, kinds := [], alts := [], laidByText := true, laidKinds := [.data, .data, .data, .data, .pinned], laidTests := true, laidLooks := .later }
def NoticeBackCardSaid : Prop := Claim7.holds Tryd.pinned (.plain (OpenSpec.ofChange noticeBackSpec)) noticeBackCard

/-- THE SECOND FORM's CARD OF 'earshotlaw5.NoticeBack'. -/
def noticeBackUptoCard : Claim7 := { stood := { row := noticeBackUptoRow, standIns := [], harness := (true, "0a37b18e3e73f25152aa61688aec0802900b7419edb4f4f9ca2492ee12e4b976"), looks := false }, kinds := [], alts := [], laidByText := true, laidKinds := [.data, .data, .data, .data, .pinned], laidTests := true, laidLooks := .later }
def NoticeBackUptoCardSaid : Prop := Claim7.holds Tryd.pinned (.plain (OpenSpec.upto noticeBackSpec)) noticeBackUptoCard
end Rows
end Go.Proofs.YtebpngapkkdifaaDoor
