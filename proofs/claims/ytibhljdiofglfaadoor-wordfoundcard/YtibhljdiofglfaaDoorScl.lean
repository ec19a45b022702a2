/- What word.Scan answers: at a text of more than 2^16 bytes. -/
import Derived.Test.YtibhljdiofglfaaDoorScp
namespace Go.Proofs.YtibhljdiofglfaaDoor
open Go.RowKit Go.Shelf
set_option maxHeartbeats 1000000 in
set_option maxRecDepth 100000 in
theorem scan_long (s : ByteArray) (hs : 65536 < s.size) (w : World) : Calls Tryd.prog 9 #[.string s] w fun e w' => e = .returned (.tuple #[.slice none 0 0, .int .i64 2, .int .i64 0, .int .i64 0]) ∧ Below w.heap.size w w' := by
  have hg : 65536 < (s.size : Int) := by omega
  go_enter Tryd.func9, Tryd.ntmps9
  go_wp2
  refine ⟨rfl, .tuple #[.slice none 0 0, .int .i64 2, .int .i64 0, .int .i64 0], by simp [results, Tryd.results9, go_sem], rfl, ?_⟩
  exact ((((Below.refl _ w).alloc (by simp) _).alloc (by simp) _).alloc (by simp; omega) _).alloc (by simp; omega) _
end Go.Proofs.YtibhljdiofglfaaDoor
