/-
  No cell of these rows narrows 'for every input' (looked for: loops, veiled, ifaces, maps, wideKeys, modest, calm, conditions, laid).
  DERIVED. THE GIVEN ROWS OF THIS SEAT. 5 by the template 'for every input the law returns true; each argument reads behind the call as it read before'; 0 by the template 'total and deterministic' (their statements: YtgihafldphpncaaTotals.lean).
  GIVEN WITH THE SEED: the statements are not yours to turn. If you find one false, say at which input.
  Laid BY PROGRAM, IN A SANDBOX (cutbox-rows.mjs): the forced cells as the released guide's own fill.sh prints them over the translation 6cba0850aeaa98f9… (all of the seat's roots in one cut). By AI agents, Wed Nov 11 2026. No macro, syntax, notation, axiom, sorry.
-/
import Derived.Test.YtgihafldphpncaaChecked
import GoSem.Claim
import GoSem.ClaimJoined
import GoSem.ClaimMapViews
import Derived.JoinedTies
import Derived.KernelRfl
namespace Go.Proofs.Ytgihafldphpncaa
/- THE CELL 'sum', in the pinned program and in every row, IS THE sha256 OF THE DUMP (.gsa) THAT YtgihafldphpncaaProg.lean LOADS. Nothing in Lean hashes anything: it is a label: what it is worth is what the hold of that sum in a sandbox is worth. -/
noncomputable def Try.pinned : Pinned := { name := "ytgihafldphpncaa", sum := "6cba0850aeaa98f983669b921034f5b4a35868d05b7721c30ac4cfd962703a0f", checked := Try.checked }
namespace Rows
def none {H : Type} : Left H := { results := [], args := [] }

/-- 'earshotlaw1.GlyphOwn': WHATEVER THE INPUT: true; the input reads as it did. -/
def glyphOwnSpec : ChangeSpec := { name := "glyphOwn", fn := fun _ => fun
  | [d] => { results := [.lit (.bool true)], args := [d] }
  | _ => none }
def glyphOwnRow : OpenClaim := { program := "ytgihafldphpncaa", sum := "6cba0850aeaa98f983669b921034f5b4a35868d05b7721c30ac4cfd962703a0f", func := "earshot/earshotlaw1.GlyphOwn", spec := "glyphOwn", unfollowed := true, recurses := true, apart := false }
def GlyphOwnSaid : Prop := glyphOwnRow.holds Try.pinned (OpenSpec.ofChange glyphOwnSpec)

/-- ITS FALSE NEIGHBOUR: 'it returns false'. Refute it at one input. -/
def glyphOwnWrong : ChangeSpec := { name := "glyphOwn", fn := fun _ => fun
  | [d] => { results := [.lit (.bool false)], args := [d] }
  | _ => none }
def GlyphOwnWrongFalsely : Prop := glyphOwnRow.holds Try.pinned (OpenSpec.ofChange glyphOwnWrong)

/-- 'earshotlaw1.GlyphTwice': WHATEVER THE INPUT: true; the input reads as it did. -/
def glyphTwiceSpec : ChangeSpec := { name := "glyphTwice", fn := fun _ => fun
  | [d] => { results := [.lit (.bool true)], args := [d] }
  | _ => none }
def glyphTwiceRow : OpenClaim := { program := "ytgihafldphpncaa", sum := "6cba0850aeaa98f983669b921034f5b4a35868d05b7721c30ac4cfd962703a0f", func := "earshot/earshotlaw1.GlyphTwice", spec := "glyphTwice", unfollowed := true, recurses := true, apart := false }
def GlyphTwiceSaid : Prop := glyphTwiceRow.holds Try.pinned (OpenSpec.ofChange glyphTwiceSpec)

/-- ITS FALSE NEIGHBOUR: 'it returns false'. Refute it at one input. -/
def glyphTwiceWrong : ChangeSpec := { name := "glyphTwice", fn := fun _ => fun
  | [d] => { results := [.lit (.bool false)], args := [d] }
  | _ => none }
def GlyphTwiceWrongFalsely : Prop := glyphTwiceRow.holds Try.pinned (OpenSpec.ofChange glyphTwiceWrong)

/-- 'earshotlaw1.GlyphMended': WHATEVER THE INPUT: true; the input reads as it did. -/
def glyphMendedSpec : ChangeSpec := { name := "glyphMended", fn := fun _ => fun
  | [d] => { results := [.lit (.bool true)], args := [d] }
  | _ => none }
def glyphMendedRow : OpenClaim := { program := "ytgihafldphpncaa", sum := "6cba0850aeaa98f983669b921034f5b4a35868d05b7721c30ac4cfd962703a0f", func := "earshot/earshotlaw1.GlyphMended", spec := "glyphMended", inPlace := ["internal/abi.NoEscape"], unfollowed := true, recurses := true, apart := false }
def GlyphMendedSaid : Prop := glyphMendedRow.holds Try.pinned (OpenSpec.ofChange glyphMendedSpec)

/-- ITS FALSE NEIGHBOUR: 'it returns false'. Refute it at one input. -/
def glyphMendedWrong : ChangeSpec := { name := "glyphMended", fn := fun _ => fun
  | [d] => { results := [.lit (.bool false)], args := [d] }
  | _ => none }
def GlyphMendedWrongFalsely : Prop := glyphMendedRow.holds Try.pinned (OpenSpec.ofChange glyphMendedWrong)

/-- 'earshotlaw1.GlyphJoined': WHATEVER THE INPUT: true; the input reads as it did. -/
def glyphJoinedSpec : ChangeSpec := { name := "glyphJoined", fn := fun _ => fun
  | [d1, d2] => { results := [.lit (.bool true)], args := [d1, d2] }
  | _ => none }
def glyphJoinedRow : OpenClaim := { program := "ytgihafldphpncaa", sum := "6cba0850aeaa98f983669b921034f5b4a35868d05b7721c30ac4cfd962703a0f", func := "earshot/earshotlaw1.GlyphJoined", spec := "glyphJoined", unfollowed := true, recurses := true, apart := false }
def GlyphJoinedSaid : Prop := glyphJoinedRow.holds Try.pinned (OpenSpec.ofChange glyphJoinedSpec)

/-- ITS FALSE NEIGHBOUR: 'it returns false'. Refute it at one input. -/
def glyphJoinedWrong : ChangeSpec := { name := "glyphJoined", fn := fun _ => fun
  | [d1, d2] => { results := [.lit (.bool false)], args := [d1, d2] }
  | _ => none }
def GlyphJoinedWrongFalsely : Prop := glyphJoinedRow.holds Try.pinned (OpenSpec.ofChange glyphJoinedWrong)

/-- 'earshotlaw1.GlyphRunes': WHATEVER THE INPUT: true; the input reads as it did. -/
def glyphRunesSpec : ChangeSpec := { name := "glyphRunes", fn := fun _ => fun
  | [d] => { results := [.lit (.bool true)], args := [d] }
  | _ => none }
def glyphRunesRow : OpenClaim := { program := "ytgihafldphpncaa", sum := "6cba0850aeaa98f983669b921034f5b4a35868d05b7721c30ac4cfd962703a0f", func := "earshot/earshotlaw1.GlyphRunes", spec := "glyphRunes", unfollowed := true, recurses := true, apart := false }
def GlyphRunesSaid : Prop := glyphRunesRow.holds Try.pinned (OpenSpec.ofChange glyphRunesSpec)

/-- ITS FALSE NEIGHBOUR: 'it returns false'. Refute it at one input. -/
def glyphRunesWrong : ChangeSpec := { name := "glyphRunes", fn := fun _ => fun
  | [d] => { results := [.lit (.bool false)], args := [d] }
  | _ => none }
def GlyphRunesWrongFalsely : Prop := glyphRunesRow.holds Try.pinned (OpenSpec.ofChange glyphRunesWrong)

/- THE SECOND FORM. 'bulk': how many values and letters a reading holds, each counted each time it is reached (what is shared counts as often as it is met; a slice's spare places count too). A statement '..UptoSaid' is the law's where the arguments, and the package variables that the reading takes, are together of bulk at most 1048576: NARROWER than '..Said'. Prove '..Said' where nothing that the law and all that it calls make is longer than what came in: it says more and counts as full. Else prove '..UptoSaid'. A law counts once. -/
mutual
def uptoBulk {H : Type} : DataW H → Nat
  | .lit (.string bytes) => bytes.length + 1
  | .lit _ => 1
  | .nil => 1
  | .ptr d => uptoBulk d + 1
  | .slice elems spare => uptoBulkAll elems + uptoBulkAll spare + 1
  | .agg parts => uptoBulkAll parts + 1
  | .iface _ d => uptoBulk d + 1
  | .map entries => uptoBulkEntries entries + 1
  | .held _ => 1
def uptoBulkAll {H : Type} : List (DataW H) → Nat
  | [] => 0
  | d :: r => uptoBulk d + uptoBulkAll r
def uptoBulkEntries {H : Type} : List (Lit × DataW H) → Nat
  | [] => 0
  | x :: r => uptoBulkEntry x + uptoBulkEntries r
def uptoBulkEntry {H : Type} : Lit × DataW H → Nat
  | (.string bytes, d) => bytes.length + uptoBulk d + 1
  | (_, d) => uptoBulk d + 1
 end
def uptoSmall : (H : Type) → List (DataW H) → Bool := fun _ ds => decide (uptoBulkAll ds ≤ 1048576)
def OpenSpec.upto (s : _root_.Go.ChangeSpec) : _root_.Go.OpenSpec := { _root_.Go.OpenSpec.ofChange s with cond := some uptoSmall }

/-- 'earshotlaw1.GlyphOwn', WHERE WHAT IT READS IS OF BULK AT MOST 1048576: true; the input reads as it did. -/
def glyphOwnUptoRow : OpenClaim := { program := "ytgihafldphpncaa", sum := "6cba0850aeaa98f983669b921034f5b4a35868d05b7721c30ac4cfd962703a0f", func := "earshot/earshotlaw1.GlyphOwn", spec := "glyphOwn", unfollowed := true, recurses := true, apart := false, narrowed := true }
def GlyphOwnUptoSaid : Prop := glyphOwnUptoRow.holds Try.pinned (OpenSpec.upto glyphOwnSpec)

/-- 'earshotlaw1.GlyphTwice', WHERE WHAT IT READS IS OF BULK AT MOST 1048576: true; the input reads as it did. -/
def glyphTwiceUptoRow : OpenClaim := { program := "ytgihafldphpncaa", sum := "6cba0850aeaa98f983669b921034f5b4a35868d05b7721c30ac4cfd962703a0f", func := "earshot/earshotlaw1.GlyphTwice", spec := "glyphTwice", unfollowed := true, recurses := true, apart := false, narrowed := true }
def GlyphTwiceUptoSaid : Prop := glyphTwiceUptoRow.holds Try.pinned (OpenSpec.upto glyphTwiceSpec)

/-- 'earshotlaw1.GlyphMended', WHERE WHAT IT READS IS OF BULK AT MOST 1048576: true; the input reads as it did. -/
def glyphMendedUptoRow : OpenClaim := { program := "ytgihafldphpncaa", sum := "6cba0850aeaa98f983669b921034f5b4a35868d05b7721c30ac4cfd962703a0f", func := "earshot/earshotlaw1.GlyphMended", spec := "glyphMended", inPlace := ["internal/abi.NoEscape"], unfollowed := true, recurses := true, apart := false, narrowed := true }
def GlyphMendedUptoSaid : Prop := glyphMendedUptoRow.holds Try.pinned (OpenSpec.upto glyphMendedSpec)

/-- 'earshotlaw1.GlyphJoined', WHERE WHAT IT READS IS OF BULK AT MOST 1048576: true; the input reads as it did. -/
def glyphJoinedUptoRow : OpenClaim := { program := "ytgihafldphpncaa", sum := "6cba0850aeaa98f983669b921034f5b4a35868d05b7721c30ac4cfd962703a0f", func := "earshot/earshotlaw1.GlyphJoined", spec := "glyphJoined", unfollowed := true, recurses := true, apart := false, narrowed := true }
def GlyphJoinedUptoSaid : Prop := glyphJoinedUptoRow.holds Try.pinned (OpenSpec.upto glyphJoinedSpec)

/-- 'earshotlaw1.GlyphRunes', WHERE WHAT IT READS IS OF BULK AT MOST 1048576: true; the input reads as it did. -/
def glyphRunesUptoRow : OpenClaim := { program := "ytgihafldphpncaa", sum := "6cba0850aeaa98f983669b921034f5b4a35868d05b7721c30ac4cfd962703a0f", func := "earshot/earshotlaw1.GlyphRunes", spec := "glyphRunes", unfollowed := true, recurses := true, apart := false, narrowed := true }
def GlyphRunesUptoSaid : Prop := glyphRunesUptoRow.holds Try.pinned (OpenSpec.upto glyphRunesSpec)

end Rows
end Go.Proofs.Ytgihafldphpncaa
