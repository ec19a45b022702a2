/-
  No cell of these rows narrows 'for every input' (looked for: loops, veiled, ifaces, maps, wideKeys, modest, calm, conditions, laid).
  DERIVED. THE GIVEN ROWS OF THIS SEAT. 5 by the template 'for every input the law returns true; each argument reads behind the call as it read before'; 0 by the template 'total and deterministic' (their statements: YtndogopllcpiiaaTotals.lean).
  GIVEN WITH THE SEED: the statements are not yours to turn. If you find one false, say at which input.
  Laid BY PROGRAM, IN A SANDBOX (cutbox-rows.mjs): the forced cells as the released guide's own fill.sh prints them over the translation 2efbdfc9f2d1374a… (all of the seat's roots in one cut). By AI agents, Wed Nov 11 2026. No macro, syntax, notation, axiom, sorry.
-/
import Derived.Test.YtndogopllcpiiaaChecked
import GoSem.Claim
import GoSem.ClaimJoined
import GoSem.ClaimMapViews
import Derived.JoinedTies
import Derived.KernelRfl
namespace Go.Proofs.Ytndogopllcpiiaa
/- THE CELL 'sum', in the pinned program and in every row, IS THE sha256 OF THE DUMP (.gsa) THAT YtndogopllcpiiaaProg.lean LOADS. Nothing in Lean hashes anything: it is a label: what it is worth is what the hold of that sum in a sandbox is worth. -/
noncomputable def Try.pinned : Pinned := { name := "ytndogopllcpiiaa", sum := "2efbdfc9f2d1374a741548c81035457a7f3543e9ce90360508c6124b56a2f7b6", checked := Try.checked }
namespace Rows
def none {H : Type} : Left H := { results := [], args := [] }

/-- 'earshotlaw7.WirePanics': WHATEVER THE INPUT: true; the input reads as it did. -/
def wirePanicsSpec : ChangeSpec := { name := "wirePanics", fn := fun _ => fun
  | [d1, d2] => { results := [.lit (.bool true)], args := [d1, d2] }
  | _ => none }
def wirePanicsRow : OpenClaim := { program := "ytndogopllcpiiaa", sum := "2efbdfc9f2d1374a741548c81035457a7f3543e9ce90360508c6124b56a2f7b6", func := "earshot/earshotlaw7.WirePanics", spec := "wirePanics", unfollowed := true, recurses := true, apart := false }
def WirePanicsSaid : Prop := wirePanicsRow.holds Try.pinned (OpenSpec.ofChange wirePanicsSpec)

/-- ITS FALSE NEIGHBOUR: 'it returns false'. Refute it at one input. -/
def wirePanicsWrong : ChangeSpec := { name := "wirePanics", fn := fun _ => fun
  | [d1, d2] => { results := [.lit (.bool false)], args := [d1, d2] }
  | _ => none }
def WirePanicsWrongFalsely : Prop := wirePanicsRow.holds Try.pinned (OpenSpec.ofChange wirePanicsWrong)

/-- 'earshotlaw7.WireTold': WHATEVER THE INPUT: true; the input reads as it did. -/
def wireToldSpec : ChangeSpec := { name := "wireTold", fn := fun _ => fun
  | [d1, d2] => { results := [.lit (.bool true)], args := [d1, d2] }
  | _ => none }
def wireToldRow : OpenClaim := { program := "ytndogopllcpiiaa", sum := "2efbdfc9f2d1374a741548c81035457a7f3543e9ce90360508c6124b56a2f7b6", func := "earshot/earshotlaw7.WireTold", spec := "wireTold", unfollowed := true, recurses := true, apart := false }
def WireToldSaid : Prop := wireToldRow.holds Try.pinned (OpenSpec.ofChange wireToldSpec)

/-- ITS FALSE NEIGHBOUR: 'it returns false'. Refute it at one input. -/
def wireToldWrong : ChangeSpec := { name := "wireTold", fn := fun _ => fun
  | [d1, d2] => { results := [.lit (.bool false)], args := [d1, d2] }
  | _ => none }
def WireToldWrongFalsely : Prop := wireToldRow.holds Try.pinned (OpenSpec.ofChange wireToldWrong)

/-- 'earshotlaw7.WireBytes': WHATEVER THE INPUT: true; the input reads as it did. -/
def wireBytesSpec : ChangeSpec := { name := "wireBytes", fn := fun _ => fun
  | [d1, d2] => { results := [.lit (.bool true)], args := [d1, d2] }
  | _ => none }
def wireBytesRow : OpenClaim := { program := "ytndogopllcpiiaa", sum := "2efbdfc9f2d1374a741548c81035457a7f3543e9ce90360508c6124b56a2f7b6", func := "earshot/earshotlaw7.WireBytes", spec := "wireBytes", unfollowed := true, recurses := true, apart := false }
def WireBytesSaid : Prop := wireBytesRow.holds Try.pinned (OpenSpec.ofChange wireBytesSpec)

/-- ITS FALSE NEIGHBOUR: 'it returns false'. Refute it at one input. -/
def wireBytesWrong : ChangeSpec := { name := "wireBytes", fn := fun _ => fun
  | [d1, d2] => { results := [.lit (.bool false)], args := [d1, d2] }
  | _ => none }
def WireBytesWrongFalsely : Prop := wireBytesRow.holds Try.pinned (OpenSpec.ofChange wireBytesWrong)

/-- 'earshotlaw7.WireDecodes': WHATEVER THE INPUT: true; the input reads as it did. -/
def wireDecodesSpec : ChangeSpec := { name := "wireDecodes", fn := fun _ => fun
  | [d1, d2] => { results := [.lit (.bool true)], args := [d1, d2] }
  | _ => none }
def wireDecodesRow : OpenClaim := { program := "ytndogopllcpiiaa", sum := "2efbdfc9f2d1374a741548c81035457a7f3543e9ce90360508c6124b56a2f7b6", func := "earshot/earshotlaw7.WireDecodes", spec := "wireDecodes", unfollowed := true, recurses := true, apart := false }
def WireDecodesSaid : Prop := wireDecodesRow.holds Try.pinned (OpenSpec.ofChange wireDecodesSpec)

/-- ITS FALSE NEIGHBOUR: 'it returns false'. Refute it at one input. -/
def wireDecodesWrong : ChangeSpec := { name := "wireDecodes", fn := fun _ => fun
  | [d1, d2] => { results := [.lit (.bool false)], args := [d1, d2] }
  | _ => none }
def WireDecodesWrongFalsely : Prop := wireDecodesRow.holds Try.pinned (OpenSpec.ofChange wireDecodesWrong)

/-- 'earshotlaw7.WirePackets': WHATEVER THE INPUT: true; the input reads as it did. -/
def wirePacketsSpec : ChangeSpec := { name := "wirePackets", fn := fun _ => fun
  | [d1, d2] => { results := [.lit (.bool true)], args := [d1, d2] }
  | _ => none }
def wirePacketsRow : OpenClaim := { program := "ytndogopllcpiiaa", sum := "2efbdfc9f2d1374a741548c81035457a7f3543e9ce90360508c6124b56a2f7b6", func := "earshot/earshotlaw7.WirePackets", spec := "wirePackets", unfollowed := true, recurses := true, apart := false }
def WirePacketsSaid : Prop := wirePacketsRow.holds Try.pinned (OpenSpec.ofChange wirePacketsSpec)

/-- ITS FALSE NEIGHBOUR: 'it returns false'. Refute it at one input. -/
def wirePacketsWrong : ChangeSpec := { name := "wirePackets", fn := fun _ => fun
  | [d1, d2] => { results := [.lit (.bool false)], args := [d1, d2] }
  | _ => none }
def WirePacketsWrongFalsely : Prop := wirePacketsRow.holds Try.pinned (OpenSpec.ofChange wirePacketsWrong)

/- THE SECOND FORM. 'bulk': how many values and letters a reading holds, each counted each time it is reached (what is shared counts as often as it is met; a slice's spare places count too). A statement '..UptoSaid' is the law's where the arguments, and the package variables that the reading takes, are together of bulk at most 1048576: NARROWER than '..Said'. Prove '..Said' where nothing that the law and all that it calls make is longer than what came in: it says more and counts as full. Else prove '..UptoSaid'. A law counts once. -/
mutual
def uptoBulk {H : Type} : DataW H → Nat
  | .lit (.string bytes) => bytes.length + 1
  | .lit _ => 1
  | .nil => 1
  | .ptr d => uptoBulk d + 1
  | .slice elems spare => uptoBulkAll elems + uptoBulkAll spare + 1
  | .agg parts => uptoBulkAll parts + 1
  | .iface _ d => uptoBulk d + 1
  | .map entries => uptoBulkEntries entries + 1
  | .held _ => 1
def uptoBulkAll {H : Type} : List (DataW H) → Nat
  | [] => 0
  | d :: r => uptoBulk d + uptoBulkAll r
def uptoBulkEntries {H : Type} : List (Lit × DataW H) → Nat
  | [] => 0
  | x :: r => uptoBulkEntry x + uptoBulkEntries r
def uptoBulkEntry {H : Type} : Lit × DataW H → Nat
  | (.string bytes, d) => bytes.length + uptoBulk d + 1
  | (_, d) => uptoBulk d + 1
 end
def uptoSmall : (H : Type) → List (DataW H) → Bool := fun _ ds => decide (uptoBulkAll ds ≤ 1048576)
def OpenSpec.upto (s : _root_.Go.ChangeSpec) : _root_.Go.OpenSpec := { _root_.Go.OpenSpec.ofChange s with cond := some uptoSmall }

/-- 'earshotlaw7.WirePanics', WHERE WHAT IT READS IS OF BULK AT MOST 1048576: true; the input reads as it did. -/
def wirePanicsUptoRow : OpenClaim := { program := "ytndogopllcpiiaa", sum := "2efbdfc9f2d1374a741548c81035457a7f3543e9ce90360508c6124b56a2f7b6", func := "earshot/earshotlaw7.WirePanics", spec := "wirePanics", unfollowed := true, recurses := true, apart := false, narrowed := true }
def WirePanicsUptoSaid : Prop := wirePanicsUptoRow.holds Try.pinned (OpenSpec.upto wirePanicsSpec)

/-- 'earshotlaw7.WireTold', WHERE WHAT IT READS IS OF BULK AT MOST 1048576: true; the input reads as it did. -/
def wireToldUptoRow : OpenClaim := { program := "ytndogopllcpiiaa", sum := "2efbdfc9f2d1374a741548c81035457a7f3543e9ce90360508c6124b56a2f7b6", func := "earshot/earshotlaw7.WireTold", spec := "wireTold", unfollowed := true, recurses := true, apart := false, narrowed := true }
def WireToldUptoSaid : Prop := wireToldUptoRow.holds Try.pinned (OpenSpec.upto wireToldSpec)

/-- 'earshotlaw7.WireBytes', WHERE WHAT IT READS IS OF BULK AT MOST 1048576: true; the input reads as it did. -/
def wireBytesUptoRow : OpenClaim := { program := "ytndogopllcpiiaa", sum := "2efbdfc9f2d1374a741548c81035457a7f3543e9ce90360508c6124b56a2f7b6", func := "earshot/earshotlaw7.WireBytes", spec := "wireBytes", unfollowed := true, recurses := true, apart := false, narrowed := true }
def WireBytesUptoSaid : Prop := wireBytesUptoRow.holds Try.pinned (OpenSpec.upto wireBytesSpec)

/-- 'earshotlaw7.WireDecodes', WHERE WHAT IT READS IS OF BULK AT MOST 1048576: true; the input reads as it did. -/
def wireDecodesUptoRow : OpenClaim := { program := "ytndogopllcpiiaa", sum := "2efbdfc9f2d1374a741548c81035457a7f3543e9ce90360508c6124b56a2f7b6", func := "earshot/earshotlaw7.WireDecodes", spec := "wireDecodes", unfollowed := true, recurses := true, apart := false, narrowed := true }
def WireDecodesUptoSaid : Prop := wireDecodesUptoRow.holds Try.pinned (OpenSpec.upto wireDecodesSpec)

/-- 'earshotlaw7.WirePackets', WHERE WHAT IT READS IS OF BULK AT MOST 1048576: true; the input reads as it did. -/
def wirePacketsUptoRow : OpenClaim := { program := "ytndogopllcpiiaa", sum := "2efbdfc9f2d1374a741548c81035457a7f3543e9ce90360508c6124b56a2f7b6", func := "earshot/earshotlaw7.WirePackets", spec := "wirePackets", unfollowed := true, recurses := true, apart := false, narrowed := true }
def WirePacketsUptoSaid : Prop := wirePacketsUptoRow.holds Try.pinned (OpenSpec.upto wirePacketsSpec)

end Rows
end Go.Proofs.Ytndogopllcpiiaa
