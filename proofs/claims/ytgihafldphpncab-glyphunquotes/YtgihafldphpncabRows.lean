/-
  No cell of these rows narrows 'for every input' (looked for: loops, veiled, ifaces, maps, wideKeys, modest, calm, conditions, laid).
  DERIVED. THE GIVEN ROWS OF THIS SEAT. 5 by the template 'for every input the law returns true; each argument reads behind the call as it read before'; 0 by the template 'total and deterministic' (their statements: YtgihafldphpncabTotals.lean).
  GIVEN WITH THE SEED: the statements are not yours to turn. If you find one false, say at which input.
  Laid BY PROGRAM, IN A SANDBOX (cutbox-rows.mjs): the forced cells as the released guide's own fill.sh prints them over the translation bce635d47bf800f9… (all of the seat's roots in one cut). By AI agents, Wed Nov 11 2026. No macro, syntax, notation, axiom, sorry.
-/
import Derived.Test.YtgihafldphpncabChecked
import GoSem.Claim
import GoSem.ClaimJoined
import GoSem.ClaimMapViews
import Derived.JoinedTies
import Derived.KernelRfl
namespace Go.Proofs.Ytgihafldphpncab
/- THE CELL 'sum', in the pinned program and in every row, IS THE sha256 OF THE DUMP (.gsa) THAT YtgihafldphpncabProg.lean LOADS. Nothing in Lean hashes anything: it is a label: what it is worth is what the hold of that sum in a sandbox is worth. -/
noncomputable def Try.pinned : Pinned := { name := "ytgihafldphpncab", sum := "bce635d47bf800f9eb74e61df391e796c01bb598e43e39705785ab6e9d8f2e99", checked := Try.checked }
namespace Rows
def none {H : Type} : Left H := { results := [], args := [] }

/-- 'earshotlaw1.GlyphChars': WHATEVER THE INPUT: true; the input reads as it did. -/
def glyphCharsSpec : ChangeSpec := { name := "glyphChars", fn := fun _ => fun
  | [d] => { results := [.lit (.bool true)], args := [d] }
  | _ => none }
def glyphCharsRow : OpenClaim := { program := "ytgihafldphpncab", sum := "bce635d47bf800f9eb74e61df391e796c01bb598e43e39705785ab6e9d8f2e99", func := "earshot/earshotlaw1.GlyphChars", spec := "glyphChars", inPlace := ["internal/abi.NoEscape"], unfollowed := true, recurses := true, apart := false }
def GlyphCharsSaid : Prop := glyphCharsRow.holds Try.pinned (OpenSpec.ofChange glyphCharsSpec)

/-- ITS FALSE NEIGHBOUR: 'it returns false'. Refute it at one input. -/
def glyphCharsWrong : ChangeSpec := { name := "glyphChars", fn := fun _ => fun
  | [d] => { results := [.lit (.bool false)], args := [d] }
  | _ => none }
def GlyphCharsWrongFalsely : Prop := glyphCharsRow.holds Try.pinned (OpenSpec.ofChange glyphCharsWrong)

/-- 'earshotlaw1.GlyphCuts': WHATEVER THE INPUT: true; the input reads as it did. -/
def glyphCutsSpec : ChangeSpec := { name := "glyphCuts", fn := fun _ => fun
  | [d1, d2, d3, d4] => { results := [.lit (.bool true)], args := [d1, d2, d3, d4] }
  | _ => none }
def glyphCutsRow : OpenClaim := { program := "ytgihafldphpncab", sum := "bce635d47bf800f9eb74e61df391e796c01bb598e43e39705785ab6e9d8f2e99", func := "earshot/earshotlaw1.GlyphCuts", spec := "glyphCuts", unfollowed := true, recurses := true, apart := false }
def GlyphCutsSaid : Prop := glyphCutsRow.holds Try.pinned (OpenSpec.ofChange glyphCutsSpec)

/-- ITS FALSE NEIGHBOUR: 'it returns false'. Refute it at one input. -/
def glyphCutsWrong : ChangeSpec := { name := "glyphCuts", fn := fun _ => fun
  | [d1, d2, d3, d4] => { results := [.lit (.bool false)], args := [d1, d2, d3, d4] }
  | _ => none }
def GlyphCutsWrongFalsely : Prop := glyphCutsRow.holds Try.pinned (OpenSpec.ofChange glyphCutsWrong)

/-- 'earshotlaw1.GlyphClasses': WHATEVER THE INPUT: true; the input reads as it did. -/
def glyphClassesSpec : ChangeSpec := { name := "glyphClasses", fn := fun _ => fun
  | [d] => { results := [.lit (.bool true)], args := [d] }
  | _ => none }
def glyphClassesRow : OpenClaim := { program := "ytgihafldphpncab", sum := "bce635d47bf800f9eb74e61df391e796c01bb598e43e39705785ab6e9d8f2e99", func := "earshot/earshotlaw1.GlyphClasses", spec := "glyphClasses", unfollowed := true, recurses := true, apart := false }
def GlyphClassesSaid : Prop := glyphClassesRow.holds Try.pinned (OpenSpec.ofChange glyphClassesSpec)

/-- ITS FALSE NEIGHBOUR: 'it returns false'. Refute it at one input. -/
def glyphClassesWrong : ChangeSpec := { name := "glyphClasses", fn := fun _ => fun
  | [d] => { results := [.lit (.bool false)], args := [d] }
  | _ => none }
def GlyphClassesWrongFalsely : Prop := glyphClassesRow.holds Try.pinned (OpenSpec.ofChange glyphClassesWrong)

/-- 'earshotlaw1.GlyphUnquotes': WHATEVER THE INPUT: true; the input reads as it did. -/
def glyphUnquotesSpec : ChangeSpec := { name := "glyphUnquotes", fn := fun _ => fun
  | [d] => { results := [.lit (.bool true)], args := [d] }
  | _ => none }
def glyphUnquotesRow : OpenClaim := { program := "ytgihafldphpncab", sum := "bce635d47bf800f9eb74e61df391e796c01bb598e43e39705785ab6e9d8f2e99", func := "earshot/earshotlaw1.GlyphUnquotes", spec := "glyphUnquotes", inPlace := ["internal/abi.NoEscape"], unfollowed := true, recurses := true, apart := false }
def GlyphUnquotesSaid : Prop := glyphUnquotesRow.holds Try.pinned (OpenSpec.ofChange glyphUnquotesSpec)

/-- ITS FALSE NEIGHBOUR: 'it returns false'. Refute it at one input. -/
def glyphUnquotesWrong : ChangeSpec := { name := "glyphUnquotes", fn := fun _ => fun
  | [d] => { results := [.lit (.bool false)], args := [d] }
  | _ => none }
def GlyphUnquotesWrongFalsely : Prop := glyphUnquotesRow.holds Try.pinned (OpenSpec.ofChange glyphUnquotesWrong)

/-- 'earshotlaw1.GlyphGoes': WHATEVER THE INPUT: true; the input reads as it did. -/
def glyphGoesSpec : ChangeSpec := { name := "glyphGoes", fn := fun _ => fun
  | [d1, d2] => { results := [.lit (.bool true)], args := [d1, d2] }
  | _ => none }
def glyphGoesRow : OpenClaim := { program := "ytgihafldphpncab", sum := "bce635d47bf800f9eb74e61df391e796c01bb598e43e39705785ab6e9d8f2e99", func := "earshot/earshotlaw1.GlyphGoes", spec := "glyphGoes", unfollowed := true, recurses := true, apart := false }
def GlyphGoesSaid : Prop := glyphGoesRow.holds Try.pinned (OpenSpec.ofChange glyphGoesSpec)

/-- ITS FALSE NEIGHBOUR: 'it returns false'. Refute it at one input. -/
def glyphGoesWrong : ChangeSpec := { name := "glyphGoes", fn := fun _ => fun
  | [d1, d2] => { results := [.lit (.bool false)], args := [d1, d2] }
  | _ => none }
def GlyphGoesWrongFalsely : Prop := glyphGoesRow.holds Try.pinned (OpenSpec.ofChange glyphGoesWrong)

/- THE SECOND FORM. 'bulk': how many values and letters a reading holds, each counted each time it is reached (what is shared counts as often as it is met; a slice's spare places count too). A statement '..UptoSaid' is the law's where the arguments, and the package variables that the reading takes, are together of bulk at most 1048576: NARROWER than '..Said'. Prove '..Said' where nothing that the law and all that it calls make is longer than what came in: it says more and counts as full. Else prove '..UptoSaid'. A law counts once. -/
mutual
def uptoBulk {H : Type} : DataW H → Nat
  | .lit (.string bytes) => bytes.length + 1
  | .lit _ => 1
  | .nil => 1
  | .ptr d => uptoBulk d + 1
  | .slice elems spare => uptoBulkAll elems + uptoBulkAll spare + 1
  | .agg parts => uptoBulkAll parts + 1
  | .iface _ d => uptoBulk d + 1
  | .map entries => uptoBulkEntries entries + 1
  | .held _ => 1
def uptoBulkAll {H : Type} : List (DataW H) → Nat
  | [] => 0
  | d :: r => uptoBulk d + uptoBulkAll r
def uptoBulkEntries {H : Type} : List (Lit × DataW H) → Nat
  | [] => 0
  | x :: r => uptoBulkEntry x + uptoBulkEntries r
def uptoBulkEntry {H : Type} : Lit × DataW H → Nat
  | (.string bytes, d) => bytes.length + uptoBulk d + 1
  | (_, d) => uptoBulk d + 1
 end
def uptoSmall : (H : Type) → List (DataW H) → Bool := fun _ ds => decide (uptoBulkAll ds ≤ 1048576)
def OpenSpec.upto (s : _root_.Go.ChangeSpec) : _root_.Go.OpenSpec := { _root_.Go.OpenSpec.ofChange s with cond := some uptoSmall }

/-- 'earshotlaw1.GlyphChars', WHERE WHAT IT READS IS OF BULK AT MOST 1048576: true; the input reads as it did. -/
def glyphCharsUptoRow : OpenClaim := { program := "ytgihafldphpncab", sum := "bce635d47bf800f9eb74e61df391e796c01bb598e43e39705785ab6e9d8f2e99", func := "earshot/earshotlaw1.GlyphChars", spec := "glyphChars", inPlace := ["internal/abi.NoEscape"], unfollowed := true, recurses := true, apart := false, narrowed := true }
def GlyphCharsUptoSaid : Prop := glyphCharsUptoRow.holds Try.pinned (OpenSpec.upto glyphCharsSpec)

/-- 'earshotlaw1.GlyphCuts', WHERE WHAT IT READS IS OF BULK AT MOST 1048576: true; the input reads as it did. -/
def glyphCutsUptoRow : OpenClaim := { program := "ytgihafldphpncab", sum := "bce635d47bf800f9eb74e61df391e796c01bb598e43e39705785ab6e9d8f2e99", func := "earshot/earshotlaw1.GlyphCuts", spec := "glyphCuts", unfollowed := true, recurses := true, apart := false, narrowed := true }
def GlyphCutsUptoSaid : Prop := glyphCutsUptoRow.holds Try.pinned (OpenSpec.upto glyphCutsSpec)

/-- 'earshotlaw1.GlyphClasses', WHERE WHAT IT READS IS OF BULK AT MOST 1048576: true; the input reads as it did. -/
def glyphClassesUptoRow : OpenClaim := { program := "ytgihafldphpncab", sum := "bce635d47bf800f9eb74e61df391e796c01bb598e43e39705785ab6e9d8f2e99", func := "earshot/earshotlaw1.GlyphClasses", spec := "glyphClasses", unfollowed := true, recurses := true, apart := false, narrowed := true }
def GlyphClassesUptoSaid : Prop := glyphClassesUptoRow.holds Try.pinned (OpenSpec.upto glyphClassesSpec)

/-- 'earshotlaw1.GlyphUnquotes', WHERE WHAT IT READS IS OF BULK AT MOST 1048576: true; the input reads as it did. -/
def glyphUnquotesUptoRow : OpenClaim := { program := "ytgihafldphpncab", sum := "bce635d47bf800f9eb74e61df391e796c01bb598e43e39705785ab6e9d8f2e99", func := "earshot/earshotlaw1.GlyphUnquotes", spec := "glyphUnquotes", inPlace := ["internal/abi.NoEscape"], unfollowed := true, recurses := true, apart := false, narrowed := true }
def GlyphUnquotesUptoSaid : Prop := glyphUnquotesUptoRow.holds Try.pinned (OpenSpec.upto glyphUnquotesSpec)

/-- 'earshotlaw1.GlyphGoes', WHERE WHAT IT READS IS OF BULK AT MOST 1048576: true; the input reads as it did. -/
def glyphGoesUptoRow : OpenClaim := { program := "ytgihafldphpncab", sum := "bce635d47bf800f9eb74e61df391e796c01bb598e43e39705785ab6e9d8f2e99", func := "earshot/earshotlaw1.GlyphGoes", spec := "glyphGoes", unfollowed := true, recurses := true, apart := false, narrowed := true }
def GlyphGoesUptoSaid : Prop := glyphGoesUptoRow.holds Try.pinned (OpenSpec.upto glyphGoesSpec)

end Rows
end Go.Proofs.Ytgihafldphpncab
