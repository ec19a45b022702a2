/- math/bits.TrailingZeros32, with its table; the ids of a set as a list. -/
import Derived.Test.YtoplegfibdmjeaaDoorOpn
import Derived.Test.YtoplegfibdmjeaaDoorSla
import Derived.Test.YtoplegfibdmjeaaDoorSeq
import Derived.Test.YtoplegfibdmjeaaDoorIdm
namespace Go.Proofs.YtoplegfibdmjeaaDoor
open Go.RowKit Go.Shelf Go.Lib

/-- The table of math/bits lies in its variable. -/
def Tab (W : World) : Prop := ∃ c t, W.heap[0]? = some (.cells c t (0, 0)) ∧ ∀ j, j < 32 → c[j]? = some (.int .u8 (deBruijn32tab.getD j 0 : Nat))
theorem Tab.lt {W : World} (h : Tab W) : 0 < W.heap.size := by obtain ⟨c, t, h, _⟩ := h; exact (Array.getElem?_eq_some_iff.1 h).1
theorem Tab.keep {W W' : World} {B : Nat} (h : Tab W) (hb : Below B W W') (hB : 0 < B) : Tab W' := by
  obtain ⟨c, t, h1, h2⟩ := h
  exact ⟨c, t, (hb.block _ hB).trans h1, h2⟩
theorem Tab.carry {W W' : World} (h : Tab W) (hb : Below W.heap.size W W') : Tab W' := h.keep hb h.lt
theorem Tab.cell {W : World} (h : Tab W) (j : Nat) (hj : j < 32) : W.cell? ⟨0, j, none⟩ = some (.int .u8 (deBruijn32tab.getD j 0 : Nat)) := by
  obtain ⟨c, t, h1, h2⟩ := h
  simp [World.cell?, h1, h2 j hj]
theorem tab_own {β : Type} : Own (fun (_ : β) W => Tab W) := by
  rintro s X Y row ⟨c, t, h1, h2⟩ hg hr
  exact ⟨c, t, (grownBy_keeps_cells hg hr h1 rfl).trans h1, h2⟩
theorem tz_key (x a : Nat) (hx : x < 4294967296) (hx0 : x ≠ 0) (hlow : x &&& (4294967296 - x) = a) :
    bits BinOp.and IntKind.u32 (x : Int) (-(x : Int) % 4294967296) * 125613361 % 4294967296 / 134217728 = ((a * 125613361 % 4294967296 / 134217728 : Nat) : Int) := by
  have e1 : -(x : Int) % 4294967296 = ((4294967296 - x : Nat) : Int) := by omega
  rw [e1, u32_and_nat x _ hx (by omega), hlow]
  omega
set_option maxHeartbeats 1000000 in
theorem tz_core (x k idx : Nat) (w : World) (hx0 : ((x : Int) == 0) = false)
    (key : bits BinOp.and IntKind.u32 (x : Int) (-(x : Int) % 4294967296) * 125613361 % 4294967296 / 134217728 = (idx : Int))
    (hi : idx < 32) (hk : k < 32) (hcell : w.cell? ⟨0, idx, none⟩ = some (.int .u8 k)) :
    Calls Tryd.prog 20 #[.int .u32 (x : Int)] w fun e w' => e = .returned (.int .i64 k) ∧ w' = w := by
  go_enter Tryd.func20, Tryd.ntmps20
  go_wp2_with (simp only [key])
  go_ret
  exact ⟨rfl, rfl⟩
theorem tz_any (x : Nat) (hx : x < 4294967296) (hx0 : x ≠ 0) (w : World) (hT : Tab w) : Calls Tryd.prog 20 #[.int .u32 (x : Int)] w fun e w' => e = .returned (.int .i64 (ctz 32 x : Nat)) ∧ w' = w := by
  obtain ⟨hlow, hk⟩ := lowest_bit 32 x hx0 hx
  obtain ⟨hi, htab⟩ := deBruijn32_at _ hk
  have hcell := hT.cell _ hi
  rw [htab] at hcell
  exact tz_core x _ _ w (by simp; omega) (tz_key x _ hx hx0 hlow) hi hk hcell

end Go.Proofs.YtoplegfibdmjeaaDoor
