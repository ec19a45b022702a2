import Derived.Test.YtmahamdmapbilaaGreatDoorJwJ29
import Derived.Test.YtmahamdmapbilaaGreatDoorJwJ12
import Derived.Test.YtmahamdmapbilaaGreatDoorJwJ14
import Derived.Test.YtmahamdmapbilaaGreatDoorJwJ27
import Derived.Laws.Bits128
import Derived.Laws.CopyRow
import Derived.Laws.CopyOwn
import Derived.Test.YtmahamdmapbilaaGreatDoorJwJ21
set_option maxHeartbeats 40000000
set_option maxRecDepth 100000
set_option linter.unusedVariables false
namespace Go.Proofs.YtmahamdmapbilaaGreatDoor
open Go.RowKit Go.Shelf Go.Lib
def mkD (x : Tk4) (s : ByteArray) : Bool := x.1 == 5 && x.2.1.toList == s.toList
def Shw6 (l : List Tk4) : Prop := ∀ i, (hereT l i).2.1.size ≤ 65536
theorem mrk_two {x : Tk4} (h : mrkB x = true) : mkD x ⟨#[63]⟩ = true ∨ (mkD x ⟨#[63]⟩ = false ∧ mkD x ⟨#[33]⟩ = true) := by
 unfold mrkB at h
 unfold mkD
 rw [show (⟨#[63]⟩ : ByteArray).toList = [63] by kernel_rfl, show (⟨#[33]⟩ : ByteArray).toList = [33] by kernel_rfl]
 cases h1 : (x.1 == 5 && x.2.1.toList == [63]) with
 | true => exact .inl rfl
 | false => rw [h1, Bool.false_or] at h; exact .inr ⟨rfl, h⟩
end Go.Proofs.YtmahamdmapbilaaGreatDoor
