/-
  DERIVED. GIVEN WITH THE SEED: THE CARDS: each row of YtgehmidalfajgaaDoorRows.lean that lists a variable, with what it lists TIED to the program's text (the seventh form; the later family's looks); each row that meets fmt, with fmt's text TOLD by the authors' own Lean function (tested against real Go, not proved from fmt's source: count such statements apart). THE CARD IS WHAT COUNTS. Prove the row's statement (the work); the ties are given (YtgehmidalfajgaaDoorTie.lean); close each card by the builder's one call (the guide's Derived/Test/ToyasCard.lean, 'card_holds'). Laid BY PROGRAM, IN A SANDBOX (cutbox-door.mjs). By AI agents, Wed Nov 11 2026. No macro, syntax, notation, axiom, sorry.
-/
import Derived.Test.YtgehmidalfajgaaDoorRows
import GoSem.ClaimSeven
namespace Go.Proofs.YtgehmidalfajgaaDoor
namespace Rows

/-- THE TIED CARD OF 'earshotlaw14.InferQuorums'. -/
def inferQuorumsCard : Claim7 := { stood := { row := inferQuorumsRow, standIns := [], harness := (true, "4e6d6cd140fb0cb465ee6f39c3f9264a031d6201466ac6ddaf174ba7b1cc6811"), looks := false }, kinds := [], alts := [], laidByText := true, laidKinds := [.data], laidTests := true, laidLooks := .later }
def InferQuorumsCardSaid : Prop := Claim7.holds Tryd.pinned (.plain (OpenSpec.ofChange inferQuorumsSpec)) inferQuorumsCard

/-- THE TIED CARD OF 'earshotlaw14.InferBegun'. -/
def inferBegunCard : Claim7 := { stood := { row := inferBegunRow, standIns := [], harness := (true, "4e6d6cd140fb0cb465ee6f39c3f9264a031d6201466ac6ddaf174ba7b1cc6811"), looks := false }, kinds := [], alts := [], laidByText := true, laidKinds := [.data], laidTests := true, laidLooks := .later }
def InferBegunCardSaid : Prop := Claim7.holds Tryd.pinned (.plain (OpenSpec.ofChange inferBegunSpec)) inferBegunCard

/-- THE TIED CARD OF 'earshotlaw14.InferNamed'. -/
def inferNamedCard : Claim7 := { stood := { row := inferNamedRow, standIns := [], harness := (true, "4e6d6cd140fb0cb465ee6f39c3f9264a031d6201466ac6ddaf174ba7b1cc6811"), looks := false }, kinds := [], alts := [], laidByText := true, laidKinds := [.data], laidTests := true, laidLooks := .later }
def InferNamedCardSaid : Prop := Claim7.holds Tryd.pinned (.plain (OpenSpec.ofChange inferNamedSpec)) inferNamedCard

/-- THE SECOND FORM's CARD OF 'earshotlaw14.InferQuorums'. -/
def inferQuorumsUptoCard : Claim7 := { stood := { row := inferQuorumsUptoRow, standIns := [], harness := (true, "4e6d6cd140fb0cb465ee6f39c3f9264a031d6201466ac6ddaf174ba7b1cc6811"), looks := false }, kinds := [], alts := [], laidByText := true, laidKinds := [.data], laidTests := true, laidLooks := .later }
def InferQuorumsUptoCardSaid : Prop := Claim7.holds Tryd.pinned (.plain (OpenSpec.upto inferQuorumsSpec)) inferQuorumsUptoCard

/-- THE SECOND FORM's CARD OF 'earshotlaw14.InferBegun'. -/
def inferBegunUptoCard : Claim7 := { stood := { row := inferBegunUptoRow, standIns := [], harness := (true, "4e6d6cd140fb0cb465ee6f39c3f9264a031d6201466ac6ddaf174ba7b1cc6811"), looks := false }, kinds := [], alts := [], laidByText := true, laidKinds := [.data], laidTests := true, laidLooks := .later }
def InferBegunUptoCardSaid : Prop := Claim7.holds Tryd.pinned (.plain (OpenSpec.upto inferBegunSpec)) inferBegunUptoCard

/-- THE SECOND FORM's CARD OF 'earshotlaw14.InferNamed'. -/
def inferNamedUptoCard : Claim7 := { stood := { row := inferNamedUptoRow, standIns := [], harness := (true, "4e6d6cd140fb0cb465ee6f39c3f9264a031d6201466ac6ddaf174ba7b1cc6811"), looks := false }, kinds := [], alts := [], laidByText := true, laidKinds := [.data], laidTests := true, laidLooks := .later }
def InferNamedUptoCardSaid : Prop := Claim7.holds Tryd.pinned (.plain (OpenSpec.upto inferNamedSpec)) inferNamedUptoCard
end Rows
end Go.Proofs.YtgehmidalfajgaaDoor
