/-
  No cell of these rows narrows 'for every input' (looked for: loops, veiled, ifaces, maps, wideKeys, modest, calm, conditions, laid).
  DERIVED. THE GIVEN ROWS OF THIS SEAT. 6 by the template 'for every input the law returns true; each argument reads behind the call as it read before'; 0 by the template 'total and deterministic' (their statements: YtjleggnkacmbbaaTotals.lean).
  GIVEN WITH THE SEED: the statements are not yours to turn. If you find one false, say at which input.
  Laid BY PROGRAM, IN A SANDBOX (cutbox-rows.mjs): the forced cells as the released guide's own fill.sh prints them over the translation ac403d847137c1ac… (all of the seat's roots in one cut). By AI agents, Wed Nov 11 2026. No macro, syntax, notation, axiom, sorry.
-/
import Derived.Test.YtjleggnkacmbbaaChecked
import GoSem.Claim
import GoSem.ClaimJoined
import GoSem.ClaimMapViews
import Derived.JoinedTies
import Derived.KernelRfl
namespace Go.Proofs.Ytjleggnkacmbbaa
/- THE CELL 'sum', in the pinned program and in every row, IS THE sha256 OF THE DUMP (.gsa) THAT YtjleggnkacmbbaaProg.lean LOADS. Nothing in Lean hashes anything: it is a label: what it is worth is what the hold of that sum in a sandbox is worth. -/
noncomputable def Try.pinned : Pinned := { name := "ytjleggnkacmbbaa", sum := "ac403d847137c1ac16d414d584396b14663ac6be2d99940e3ed1194aa61f5a26", checked := Try.checked }
namespace Rows
def none {H : Type} : Left H := { results := [], args := [] }

/-- 'earshotlaw12.BootRounds': WHATEVER THE INPUT: true; the input reads as it did. -/
def bootRoundsSpec : ChangeSpec := { name := "bootRounds", fn := fun _ => fun
  | [d] => { results := [.lit (.bool true)], args := [d] }
  | _ => none }
def bootRoundsRow : OpenClaim := { program := "ytjleggnkacmbbaa", sum := "ac403d847137c1ac16d414d584396b14663ac6be2d99940e3ed1194aa61f5a26", func := "earshot/earshotlaw12.BootRounds", spec := "bootRounds", unfollowed := true, recurses := true, apart := false }
def BootRoundsSaid : Prop := bootRoundsRow.holds Try.pinned (OpenSpec.ofChange bootRoundsSpec)

/-- ITS FALSE NEIGHBOUR: 'it returns false'. Refute it at one input. -/
def bootRoundsWrong : ChangeSpec := { name := "bootRounds", fn := fun _ => fun
  | [d] => { results := [.lit (.bool false)], args := [d] }
  | _ => none }
def BootRoundsWrongFalsely : Prop := bootRoundsRow.holds Try.pinned (OpenSpec.ofChange bootRoundsWrong)

/-- 'earshotlaw12.BootTags': WHATEVER THE INPUT: true; the input reads as it did. -/
def bootTagsSpec : ChangeSpec := { name := "bootTags", fn := fun _ => fun
  | [d] => { results := [.lit (.bool true)], args := [d] }
  | _ => none }
def bootTagsRow : OpenClaim := { program := "ytjleggnkacmbbaa", sum := "ac403d847137c1ac16d414d584396b14663ac6be2d99940e3ed1194aa61f5a26", func := "earshot/earshotlaw12.BootTags", spec := "bootTags", unfollowed := true, recurses := true, apart := false }
def BootTagsSaid : Prop := bootTagsRow.holds Try.pinned (OpenSpec.ofChange bootTagsSpec)

/-- ITS FALSE NEIGHBOUR: 'it returns false'. Refute it at one input. -/
def bootTagsWrong : ChangeSpec := { name := "bootTags", fn := fun _ => fun
  | [d] => { results := [.lit (.bool false)], args := [d] }
  | _ => none }
def BootTagsWrongFalsely : Prop := bootTagsRow.holds Try.pinned (OpenSpec.ofChange bootTagsWrong)

/-- 'earshotlaw12.BootKept': WHATEVER THE INPUT: true; the input reads as it did. -/
def bootKeptSpec : ChangeSpec := { name := "bootKept", fn := fun _ => fun
  | [d] => { results := [.lit (.bool true)], args := [d] }
  | _ => none }
def bootKeptRow : OpenClaim := { program := "ytjleggnkacmbbaa", sum := "ac403d847137c1ac16d414d584396b14663ac6be2d99940e3ed1194aa61f5a26", func := "earshot/earshotlaw12.BootKept", spec := "bootKept", unfollowed := true, recurses := true, apart := false }
def BootKeptSaid : Prop := bootKeptRow.holds Try.pinned (OpenSpec.ofChange bootKeptSpec)

/-- ITS FALSE NEIGHBOUR: 'it returns false'. Refute it at one input. -/
def bootKeptWrong : ChangeSpec := { name := "bootKept", fn := fun _ => fun
  | [d] => { results := [.lit (.bool false)], args := [d] }
  | _ => none }
def BootKeptWrongFalsely : Prop := bootKeptRow.holds Try.pinned (OpenSpec.ofChange bootKeptWrong)

/-- 'earshotlaw12.BootBlocks': WHATEVER THE INPUT: true; the input reads as it did. -/
def bootBlocksSpec : ChangeSpec := { name := "bootBlocks", fn := fun _ => fun
  | [d] => { results := [.lit (.bool true)], args := [d] }
  | _ => none }
def bootBlocksRow : OpenClaim := { program := "ytjleggnkacmbbaa", sum := "ac403d847137c1ac16d414d584396b14663ac6be2d99940e3ed1194aa61f5a26", func := "earshot/earshotlaw12.BootBlocks", spec := "bootBlocks", unfollowed := true, recurses := true, apart := false }
def BootBlocksSaid : Prop := bootBlocksRow.holds Try.pinned (OpenSpec.ofChange bootBlocksSpec)

/-- ITS FALSE NEIGHBOUR: 'it returns false'. Refute it at one input. -/
def bootBlocksWrong : ChangeSpec := { name := "bootBlocks", fn := fun _ => fun
  | [d] => { results := [.lit (.bool false)], args := [d] }
  | _ => none }
def BootBlocksWrongFalsely : Prop := bootBlocksRow.holds Try.pinned (OpenSpec.ofChange bootBlocksWrong)

/-- 'earshotlaw12.BootPlays': WHATEVER THE INPUT: true; the input reads as it did. -/
def bootPlaysSpec : ChangeSpec := { name := "bootPlays", fn := fun _ => fun
  | [d1, d2, d3] => { results := [.lit (.bool true)], args := [d1, d2, d3] }
  | _ => none }
def bootPlaysRow : OpenClaim := { program := "ytjleggnkacmbbaa", sum := "ac403d847137c1ac16d414d584396b14663ac6be2d99940e3ed1194aa61f5a26", func := "earshot/earshotlaw12.BootPlays", spec := "bootPlays", unfollowed := true, recurses := true, apart := false }
def BootPlaysSaid : Prop := bootPlaysRow.holds Try.pinned (OpenSpec.ofChange bootPlaysSpec)

/-- ITS FALSE NEIGHBOUR: 'it returns false'. Refute it at one input. -/
def bootPlaysWrong : ChangeSpec := { name := "bootPlays", fn := fun _ => fun
  | [d1, d2, d3] => { results := [.lit (.bool false)], args := [d1, d2, d3] }
  | _ => none }
def BootPlaysWrongFalsely : Prop := bootPlaysRow.holds Try.pinned (OpenSpec.ofChange bootPlaysWrong)

/-- 'earshotlaw12.BootAll': WHATEVER THE INPUT: true; the input reads as it did. -/
def bootAllSpec : ChangeSpec := { name := "bootAll", fn := fun _ => fun
  | [d1, d2, d3] => { results := [.lit (.bool true)], args := [d1, d2, d3] }
  | _ => none }
def bootAllRow : OpenClaim := { program := "ytjleggnkacmbbaa", sum := "ac403d847137c1ac16d414d584396b14663ac6be2d99940e3ed1194aa61f5a26", func := "earshot/earshotlaw12.BootAll", spec := "bootAll", unfollowed := true, recurses := true, apart := false }
def BootAllSaid : Prop := bootAllRow.holds Try.pinned (OpenSpec.ofChange bootAllSpec)

/-- ITS FALSE NEIGHBOUR: 'it returns false'. Refute it at one input. -/
def bootAllWrong : ChangeSpec := { name := "bootAll", fn := fun _ => fun
  | [d1, d2, d3] => { results := [.lit (.bool false)], args := [d1, d2, d3] }
  | _ => none }
def BootAllWrongFalsely : Prop := bootAllRow.holds Try.pinned (OpenSpec.ofChange bootAllWrong)

/- THE SECOND FORM. 'bulk': how many values and letters a reading holds, each counted each time it is reached (what is shared counts as often as it is met; a slice's spare places count too). A statement '..UptoSaid' is the law's where the arguments, and the package variables that the reading takes, are together of bulk at most 1048576: NARROWER than '..Said'. Prove '..Said' where nothing that the law and all that it calls make is longer than what came in: it says more and counts as full. Else prove '..UptoSaid'. A law counts once. -/
mutual
def uptoBulk {H : Type} : DataW H → Nat
  | .lit (.string bytes) => bytes.length + 1
  | .lit _ => 1
  | .nil => 1
  | .ptr d => uptoBulk d + 1
  | .slice elems spare => uptoBulkAll elems + uptoBulkAll spare + 1
  | .agg parts => uptoBulkAll parts + 1
  | .iface _ d => uptoBulk d + 1
  | .map entries => uptoBulkEntries entries + 1
  | .held _ => 1
def uptoBulkAll {H : Type} : List (DataW H) → Nat
  | [] => 0
  | d :: r => uptoBulk d + uptoBulkAll r
def uptoBulkEntries {H : Type} : List (Lit × DataW H) → Nat
  | [] => 0
  | x :: r => uptoBulkEntry x + uptoBulkEntries r
def uptoBulkEntry {H : Type} : Lit × DataW H → Nat
  | (.string bytes, d) => bytes.length + uptoBulk d + 1
  | (_, d) => uptoBulk d + 1
 end
def uptoSmall : (H : Type) → List (DataW H) → Bool := fun _ ds => decide (uptoBulkAll ds ≤ 1048576)
def OpenSpec.upto (s : _root_.Go.ChangeSpec) : _root_.Go.OpenSpec := { _root_.Go.OpenSpec.ofChange s with cond := some uptoSmall }

/-- 'earshotlaw12.BootRounds', WHERE WHAT IT READS IS OF BULK AT MOST 1048576: true; the input reads as it did. -/
def bootRoundsUptoRow : OpenClaim := { program := "ytjleggnkacmbbaa", sum := "ac403d847137c1ac16d414d584396b14663ac6be2d99940e3ed1194aa61f5a26", func := "earshot/earshotlaw12.BootRounds", spec := "bootRounds", unfollowed := true, recurses := true, apart := false, narrowed := true }
def BootRoundsUptoSaid : Prop := bootRoundsUptoRow.holds Try.pinned (OpenSpec.upto bootRoundsSpec)

/-- 'earshotlaw12.BootTags', WHERE WHAT IT READS IS OF BULK AT MOST 1048576: true; the input reads as it did. -/
def bootTagsUptoRow : OpenClaim := { program := "ytjleggnkacmbbaa", sum := "ac403d847137c1ac16d414d584396b14663ac6be2d99940e3ed1194aa61f5a26", func := "earshot/earshotlaw12.BootTags", spec := "bootTags", unfollowed := true, recurses := true, apart := false, narrowed := true }
def BootTagsUptoSaid : Prop := bootTagsUptoRow.holds Try.pinned (OpenSpec.upto bootTagsSpec)

/-- 'earshotlaw12.BootKept', WHERE WHAT IT READS IS OF BULK AT MOST 1048576: true; the input reads as it did. -/
def bootKeptUptoRow : OpenClaim := { program := "ytjleggnkacmbbaa", sum := "ac403d847137c1ac16d414d584396b14663ac6be2d99940e3ed1194aa61f5a26", func := "earshot/earshotlaw12.BootKept", spec := "bootKept", unfollowed := true, recurses := true, apart := false, narrowed := true }
def BootKeptUptoSaid : Prop := bootKeptUptoRow.holds Try.pinned (OpenSpec.upto bootKeptSpec)

/-- 'earshotlaw12.BootBlocks', WHERE WHAT IT READS IS OF BULK AT MOST 1048576: true; the input reads as it did. -/
def bootBlocksUptoRow : OpenClaim := { program := "ytjleggnkacmbbaa", sum := "ac403d847137c1ac16d414d584396b14663ac6be2d99940e3ed1194aa61f5a26", func := "earshot/earshotlaw12.BootBlocks", spec := "bootBlocks", unfollowed := true, recurses := true, apart := false, narrowed := true }
def BootBlocksUptoSaid : Prop := bootBlocksUptoRow.holds Try.pinned (OpenSpec.upto bootBlocksSpec)

/-- 'earshotlaw12.BootPlays', WHERE WHAT IT READS IS OF BULK AT MOST 1048576: true; the input reads as it did. -/
def bootPlaysUptoRow : OpenClaim := { program := "ytjleggnkacmbbaa", sum := "ac403d847137c1ac16d414d584396b14663ac6be2d99940e3ed1194aa61f5a26", func := "earshot/earshotlaw12.BootPlays", spec := "bootPlays", unfollowed := true, recurses := true, apart := false, narrowed := true }
def BootPlaysUptoSaid : Prop := bootPlaysUptoRow.holds Try.pinned (OpenSpec.upto bootPlaysSpec)

/-- 'earshotlaw12.BootAll', WHERE WHAT IT READS IS OF BULK AT MOST 1048576: true; the input reads as it did. -/
def bootAllUptoRow : OpenClaim := { program := "ytjleggnkacmbbaa", sum := "ac403d847137c1ac16d414d584396b14663ac6be2d99940e3ed1194aa61f5a26", func := "earshot/earshotlaw12.BootAll", spec := "bootAll", unfollowed := true, recurses := true, apart := false, narrowed := true }
def BootAllUptoSaid : Prop := bootAllUptoRow.holds Try.pinned (OpenSpec.upto bootAllSpec)

end Rows
end Go.Proofs.Ytjleggnkacmbbaa
