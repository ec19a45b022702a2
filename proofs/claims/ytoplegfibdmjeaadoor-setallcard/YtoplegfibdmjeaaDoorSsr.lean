/- Lists of sets, read. -/
import Derived.Test.YtoplegfibdmjeaaDoorWth
import Derived.Test.YtoplegfibdmjeaaDoorBxs
import Derived.Test.YtoplegfibdmjeaaDoorSia
namespace Go.Proofs.YtoplegfibdmjeaaDoor
open Go.RowKit Go.Shelf

/-- These sets lie there. -/
def SsAt (W : World) (b off : Nat) (l : List Nat) : Prop := ∀ (k x : Nat), l[k]? = some x → W.cell? ⟨b, off + k * 4, none⟩ = some (.int .u32 (wd x 0 : Nat)) ∧ W.cell? ⟨b, off + k * 4 + 1, none⟩ = some (.int .u32 (wd x 1 : Nat)) ∧ W.cell? ⟨b, off + k * 4 + 2, none⟩ = some (.int .u32 (wd x 2 : Nat)) ∧ W.cell? ⟨b, off + k * 4 + 3, none⟩ = some (.int .u32 (wd x 3 : Nat))
def RdS (W : World) (ad : Option Addr) (l : List Nat) : Prop := l ≠ [] → ∃ b off, ad = some ⟨b, off, none⟩ ∧ b < W.heap.size ∧ SsAt W b off l
theorem SsAt.carry {W W' : World} {b off : Nat} {l : List Nat} (h : SsAt W b off l) (e : W'.heap[b]? = W.heap[b]?) : SsAt W' b off l := fun k x hk => by
  obtain ⟨c0, c1, c2, c3⟩ := h k x hk
  exact ⟨(World.cell?_of_block (a := ⟨b, _, none⟩) e).trans c0, (World.cell?_of_block (a := ⟨b, _, none⟩) e).trans c1, (World.cell?_of_block (a := ⟨b, _, none⟩) e).trans c2, (World.cell?_of_block (a := ⟨b, _, none⟩) e).trans c3⟩
theorem RdS.carry {W W' : World} {ad : Option Addr} {l : List Nat} (h : RdS W ad l) (hb : Below W.heap.size W W') : RdS W' ad l := fun hl => by
  obtain ⟨b, off, e, h1, h2⟩ := h hl
  exact ⟨b, off, e, Nat.lt_of_lt_of_le h1 hb.size, h2.carry (hb.block _ h1)⟩
theorem idx_s (g off n cap k : Nat) (h : k < n) (w : World) : (Instr.indexAt 22 (.slice (some ⟨g, off, none⟩) n cap) (.int .i64 (k : Int))).run Tryd.prog w = .ok (.pointer (some ⟨g, off + k * 4, none⟩)) w := by
  have h1 : (k : Int) < (n : Int) := by omega
  go_simp
theorem load_s {W : World} {b off N : Nat} (c0 : W.cell? ⟨b, off, none⟩ = some (.int .u32 (wd N 0 : Nat))) (c1 : W.cell? ⟨b, off + 1, none⟩ = some (.int .u32 (wd N 1 : Nat))) (c2 : W.cell? ⟨b, off + 2, none⟩ = some (.int .u32 (wd N 2 : Nat))) (c3 : W.cell? ⟨b, off + 3, none⟩ = some (.int .u32 (wd N 3 : Nat))) : (Instr.loadAt 41 (.pointer (some ⟨b, off, none⟩))).run Tryd.prog W = .ok (sv N) W := by
  unfold sv
  go_simp
theorem load_sk {W : World} {b off : Nat} {l : List Nat} (h : SsAt W b off l) {k x : Nat} (hk : l[k]? = some x) : (Instr.loadAt 41 (.pointer (some ⟨b, off + k * 4, none⟩))).run Tryd.prog W = .ok (sv x) W := by
  obtain ⟨c0, c1, c2, c3⟩ := h k x hk
  exact load_s c0 c1 c2 c3
theorem ext2_0 (a b : Value) (w : World) : (Instr.extract (.tuple #[a, b]) 0).run Tryd.prog w = .ok a w := by kernel_rfl
theorem ext2_1 (a b : Value) (w : World) : (Instr.extract (.tuple #[a, b]) 1).run Tryd.prog w = .ok b w := by kernel_rfl
end Go.Proofs.YtoplegfibdmjeaaDoor
