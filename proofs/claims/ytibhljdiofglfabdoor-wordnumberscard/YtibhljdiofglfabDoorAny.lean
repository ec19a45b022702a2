/- A region that draws its order, in a round too: walked by a statement on what has come up. -/
import Derived.Test.YtibhljdiofglfabDoorBas
namespace Go.Proofs.YtibhljdiofglfabDoor
open Go.RowKit Go.Shelf

theorem wpAnyIn_inv {F : Fence} {n : Nat} {P : Program} {md : Region.Mode} {ops : Array Oper} {Q : Exit → Act → World → Prop} (St : Nat → Array Bool → Act → World → Prop)
    (h0 : ∀ listed a w, St 0 listed a w → Region.ready md ops listed = [] ∧ Q .normal a w)
    (hs : ∀ k listed a w, St (k + 1) listed a w → (Region.ready md ops listed = [] → Q .normal a w) ∧ ∀ i ∈ Region.ready md ops listed, wpOpIn F n P ops Q i (fun a' w' => St k (listed.setIfInBounds i true) a' w') a w) :
    ∀ (k : Nat) (listed : Array Bool) (a : Act) (w : World), St k listed a w → wpAnyIn F n P md ops Q k listed a w
  | 0, listed, a, w, h => h0 listed a w h
  | k + 1, listed, a, w, h => ⟨(hs k listed a w h).1, fun i hi => wpOpIn_mono (fun a' w' h' => wpAnyIn_inv St h0 hs k _ a' w' h') ((hs k listed a w h).2 i hi)⟩
/-- One for each that has not come up. -/
def fls (b : Bool) : Nat := if b then 0 else 1
end Go.Proofs.YtibhljdiofglfabDoor
