/-
  No cell of these rows narrows 'for every input' (looked for: loops, veiled, ifaces, maps, wideKeys, modest, calm, conditions, laid).
  DERIVED. THE GIVEN ROWS OF THIS SEAT. 4 by the template 'for every input the law returns true; each argument reads behind the call as it read before'; 0 by the template 'total and deterministic' (their statements: YtddblfffjhoiaaaTotals.lean).
  GIVEN WITH THE SEED: the statements are not yours to turn. If you find one false, say at which input.
  Laid BY PROGRAM, IN A SANDBOX (cutbox-rows.mjs): the forced cells as the released guide's own fill.sh prints them over the translation db2d91c438f3cc4e… (all of the seat's roots in one cut). By AI agents, Wed Nov 11 2026. No macro, syntax, notation, axiom, sorry.
-/
import Derived.Test.YtddblfffjhoiaaaChecked
import GoSem.Claim
import GoSem.ClaimJoined
import GoSem.ClaimMapViews
import Derived.JoinedTies
import Derived.KernelRfl
namespace Go.Proofs.Ytddblfffjhoiaaa
/- THE CELL 'sum', in the pinned program and in every row, IS THE sha256 OF THE DUMP (.gsa) THAT YtddblfffjhoiaaaProg.lean LOADS. Nothing in Lean hashes anything: it is a label: what it is worth is what the hold of that sum in a sandbox is worth. -/
noncomputable def Try.pinned : Pinned := { name := "ytddblfffjhoiaaa", sum := "db2d91c438f3cc4ee1378aef56cd3c5d31e6934ad1b02ace6bf6271475ef724f", checked := Try.checked }
namespace Rows
def none {H : Type} : Left H := { results := [], args := [] }

/-- 'earshotlaw16.SpreadMeets': WHATEVER THE INPUT: true; the input reads as it did. -/
def spreadMeetsSpec : ChangeSpec := { name := "spreadMeets", fn := fun _ => fun
  | [d1, d2, d3, d4] => { results := [.lit (.bool true)], args := [d1, d2, d3, d4] }
  | _ => none }
def spreadMeetsRow : OpenClaim := { program := "ytddblfffjhoiaaa", sum := "db2d91c438f3cc4ee1378aef56cd3c5d31e6934ad1b02ace6bf6271475ef724f", func := "earshot/earshotlaw16.SpreadMeets", spec := "spreadMeets", unfollowed := true, recurses := true, apart := false }
def SpreadMeetsSaid : Prop := spreadMeetsRow.holds Try.pinned (OpenSpec.ofChange spreadMeetsSpec)

/-- ITS FALSE NEIGHBOUR: 'it returns false'. Refute it at one input. -/
def spreadMeetsWrong : ChangeSpec := { name := "spreadMeets", fn := fun _ => fun
  | [d1, d2, d3, d4] => { results := [.lit (.bool false)], args := [d1, d2, d3, d4] }
  | _ => none }
def SpreadMeetsWrongFalsely : Prop := spreadMeetsRow.holds Try.pinned (OpenSpec.ofChange spreadMeetsWrong)

/-- 'earshotlaw16.SpreadOrder': WHATEVER THE INPUT: true; the input reads as it did. -/
def spreadOrderSpec : ChangeSpec := { name := "spreadOrder", fn := fun _ => fun
  | [d1, d2, d3, d4] => { results := [.lit (.bool true)], args := [d1, d2, d3, d4] }
  | _ => none }
def spreadOrderRow : OpenClaim := { program := "ytddblfffjhoiaaa", sum := "db2d91c438f3cc4ee1378aef56cd3c5d31e6934ad1b02ace6bf6271475ef724f", func := "earshot/earshotlaw16.SpreadOrder", spec := "spreadOrder", unfollowed := true, recurses := true, apart := false }
def SpreadOrderSaid : Prop := spreadOrderRow.holds Try.pinned (OpenSpec.ofChange spreadOrderSpec)

/-- ITS FALSE NEIGHBOUR: 'it returns false'. Refute it at one input. -/
def spreadOrderWrong : ChangeSpec := { name := "spreadOrder", fn := fun _ => fun
  | [d1, d2, d3, d4] => { results := [.lit (.bool false)], args := [d1, d2, d3, d4] }
  | _ => none }
def SpreadOrderWrongFalsely : Prop := spreadOrderRow.holds Try.pinned (OpenSpec.ofChange spreadOrderWrong)

/-- 'earshotlaw16.SpreadOwn': WHATEVER THE INPUT: true; the input reads as it did. -/
def spreadOwnSpec : ChangeSpec := { name := "spreadOwn", fn := fun _ => fun
  | [d1, d2, d3] => { results := [.lit (.bool true)], args := [d1, d2, d3] }
  | _ => none }
def spreadOwnRow : OpenClaim := { program := "ytddblfffjhoiaaa", sum := "db2d91c438f3cc4ee1378aef56cd3c5d31e6934ad1b02ace6bf6271475ef724f", func := "earshot/earshotlaw16.SpreadOwn", spec := "spreadOwn", unfollowed := true, recurses := true, apart := false }
def SpreadOwnSaid : Prop := spreadOwnRow.holds Try.pinned (OpenSpec.ofChange spreadOwnSpec)

/-- ITS FALSE NEIGHBOUR: 'it returns false'. Refute it at one input. -/
def spreadOwnWrong : ChangeSpec := { name := "spreadOwn", fn := fun _ => fun
  | [d1, d2, d3] => { results := [.lit (.bool false)], args := [d1, d2, d3] }
  | _ => none }
def SpreadOwnWrongFalsely : Prop := spreadOwnRow.holds Try.pinned (OpenSpec.ofChange spreadOwnWrong)

/-- 'earshotlaw16.SpreadGossip': WHATEVER THE INPUT: true; the input reads as it did. -/
def spreadGossipSpec : ChangeSpec := { name := "spreadGossip", fn := fun _ => fun
  | [d1, d2] => { results := [.lit (.bool true)], args := [d1, d2] }
  | _ => none }
def spreadGossipRow : OpenClaim := { program := "ytddblfffjhoiaaa", sum := "db2d91c438f3cc4ee1378aef56cd3c5d31e6934ad1b02ace6bf6271475ef724f", func := "earshot/earshotlaw16.SpreadGossip", spec := "spreadGossip", unfollowed := true, recurses := true, apart := false }
def SpreadGossipSaid : Prop := spreadGossipRow.holds Try.pinned (OpenSpec.ofChange spreadGossipSpec)

/-- ITS FALSE NEIGHBOUR: 'it returns false'. Refute it at one input. -/
def spreadGossipWrong : ChangeSpec := { name := "spreadGossip", fn := fun _ => fun
  | [d1, d2] => { results := [.lit (.bool false)], args := [d1, d2] }
  | _ => none }
def SpreadGossipWrongFalsely : Prop := spreadGossipRow.holds Try.pinned (OpenSpec.ofChange spreadGossipWrong)

/- THE SECOND FORM. 'bulk': how many values and letters a reading holds, each counted each time it is reached (what is shared counts as often as it is met; a slice's spare places count too). A statement '..UptoSaid' is the law's where the arguments, and the package variables that the reading takes, are together of bulk at most 1048576: NARROWER than '..Said'. Prove '..Said' where nothing that the law and all that it calls make is longer than what came in: it says more and counts as full. Else prove '..UptoSaid'. A law counts once. -/
mutual
def uptoBulk {H : Type} : DataW H → Nat
  | .lit (.string bytes) => bytes.length + 1
  | .lit _ => 1
  | .nil => 1
  | .ptr d => uptoBulk d + 1
  | .slice elems spare => uptoBulkAll elems + uptoBulkAll spare + 1
  | .agg parts => uptoBulkAll parts + 1
  | .iface _ d => uptoBulk d + 1
  | .map entries => uptoBulkEntries entries + 1
  | .held _ => 1
def uptoBulkAll {H : Type} : List (DataW H) → Nat
  | [] => 0
  | d :: r => uptoBulk d + uptoBulkAll r
def uptoBulkEntries {H : Type} : List (Lit × DataW H) → Nat
  | [] => 0
  | x :: r => uptoBulkEntry x + uptoBulkEntries r
def uptoBulkEntry {H : Type} : Lit × DataW H → Nat
  | (.string bytes, d) => bytes.length + uptoBulk d + 1
  | (_, d) => uptoBulk d + 1
 end
def uptoSmall : (H : Type) → List (DataW H) → Bool := fun _ ds => decide (uptoBulkAll ds ≤ 1048576)
def OpenSpec.upto (s : _root_.Go.ChangeSpec) : _root_.Go.OpenSpec := { _root_.Go.OpenSpec.ofChange s with cond := some uptoSmall }

/-- 'earshotlaw16.SpreadMeets', WHERE WHAT IT READS IS OF BULK AT MOST 1048576: true; the input reads as it did. -/
def spreadMeetsUptoRow : OpenClaim := { program := "ytddblfffjhoiaaa", sum := "db2d91c438f3cc4ee1378aef56cd3c5d31e6934ad1b02ace6bf6271475ef724f", func := "earshot/earshotlaw16.SpreadMeets", spec := "spreadMeets", unfollowed := true, recurses := true, apart := false, narrowed := true }
def SpreadMeetsUptoSaid : Prop := spreadMeetsUptoRow.holds Try.pinned (OpenSpec.upto spreadMeetsSpec)

/-- 'earshotlaw16.SpreadOrder', WHERE WHAT IT READS IS OF BULK AT MOST 1048576: true; the input reads as it did. -/
def spreadOrderUptoRow : OpenClaim := { program := "ytddblfffjhoiaaa", sum := "db2d91c438f3cc4ee1378aef56cd3c5d31e6934ad1b02ace6bf6271475ef724f", func := "earshot/earshotlaw16.SpreadOrder", spec := "spreadOrder", unfollowed := true, recurses := true, apart := false, narrowed := true }
def SpreadOrderUptoSaid : Prop := spreadOrderUptoRow.holds Try.pinned (OpenSpec.upto spreadOrderSpec)

/-- 'earshotlaw16.SpreadOwn', WHERE WHAT IT READS IS OF BULK AT MOST 1048576: true; the input reads as it did. -/
def spreadOwnUptoRow : OpenClaim := { program := "ytddblfffjhoiaaa", sum := "db2d91c438f3cc4ee1378aef56cd3c5d31e6934ad1b02ace6bf6271475ef724f", func := "earshot/earshotlaw16.SpreadOwn", spec := "spreadOwn", unfollowed := true, recurses := true, apart := false, narrowed := true }
def SpreadOwnUptoSaid : Prop := spreadOwnUptoRow.holds Try.pinned (OpenSpec.upto spreadOwnSpec)

/-- 'earshotlaw16.SpreadGossip', WHERE WHAT IT READS IS OF BULK AT MOST 1048576: true; the input reads as it did. -/
def spreadGossipUptoRow : OpenClaim := { program := "ytddblfffjhoiaaa", sum := "db2d91c438f3cc4ee1378aef56cd3c5d31e6934ad1b02ace6bf6271475ef724f", func := "earshot/earshotlaw16.SpreadGossip", spec := "spreadGossip", unfollowed := true, recurses := true, apart := false, narrowed := true }
def SpreadGossipUptoSaid : Prop := spreadGossipUptoRow.holds Try.pinned (OpenSpec.upto spreadGossipSpec)

end Rows
end Go.Proofs.Ytddblfffjhoiaaa
