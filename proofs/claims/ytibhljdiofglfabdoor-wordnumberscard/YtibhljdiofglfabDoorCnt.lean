/- What glyph.Count answers: at every text of at most 2^63 - 1 bytes. -/
import Derived.Test.YtibhljdiofglfabDoorBas2
namespace Go.Proofs.YtibhljdiofglfabDoor
open Go.RowKit Go.Shelf
attribute [local go_sem] Oper.semAt_some
set_option maxHeartbeats 400000 in
theorem count_any (s : ByteArray) (hs : s.size ≤ maxLen) (w : World) :
    Calls Tryd.prog 21 #[.string s] w fun e w' => e = .returned (.int .i64 (starts s).length) ∧ Below w.heap.size w w' := by
  have hlen := starts_length s
  unfold maxLen at hs
  go_enter Tryd.func21, Tryd.ntmps21
  go_wp2
  go_loopw [3] (fun c wr => ∃ (pos fuel : Nat) (pre : List Nat), starts s = pre ++ startsFrom s fuel pos ∧ s.size ≤ pos + fuel ∧ c = .int .i64 pre.length ∧ wr.heap[w.heap.size]? = some (.stringIter s pos) ∧ Below w.heap.size w wr) (fun _ wr => s.size - wr.iterPos w.heap.size)
  case atStart =>
    exact ⟨0, s.size, [], rfl, by omega, rfl, World.iter_heap w s 0, (Below.refl _ w).alloc (Nat.le_refl _) _⟩
  case round =>
    obtain ⟨pos, fuel, pre, hst, hfu, rfl, hit, hb⟩ := hrel
    by_cases hp : pos < s.size
    · have hnx : ∀ ty, (Instr.next (.pointer (some ⟨w.heap.size, 0, none⟩)) true ty).run Tryd.prog wr = .ok (.tuple #[.bool true, .int .i64 pos, .int .i32 (rn s pos)]) (wr.iterAt w.heap.size s (pos + wd s pos)) := fun ty => Lib.run_next_any_at wr w.heap.size s pos ty hit hp
      have hit2 := Lib.iterAt_heap wr w.heap.size s pos (pos + wd s pos) hit
      have hb2 := Lib.below_iterAt hb (k := w.heap.size) (Nat.le_refl _) s (pos + wd s pos)
      obtain ⟨f, rfl⟩ : ∃ f, fuel = f + 1 := ⟨fuel - 1, by omega⟩
      rw [startsFrom_step s f pos hp] at hst
      have hll : pre.length + 1 ≤ s.size := by rw [hst] at hlen; simp at hlen; omega
      have HS : Hid (starts s = pre ++ pos :: startsFrom s f (pos + wd s pos)) := hst
      clear hst
      go_wp2
      go_roundw
      case rel =>
        have := wd_pos s pos
        exact ⟨pos + wd s pos, f, pre ++ [pos], by rw [HS.out]; simp, by omega, by simp, hit2, hb2⟩
      case measure =>
        have := wd_pos s pos
        simp only [World.iterPos, hit2, hit]
        omega
    · have hnx : ∀ ty, (Instr.next (.pointer (some ⟨w.heap.size, 0, none⟩)) true ty).run Tryd.prog wr = .ok (.tuple #[.bool false]) wr := fun ty => Lib.run_next_end_at wr w.heap.size s pos ty hit hp
      rw [startsFrom_end s fuel pos hp, List.append_nil] at hst
      subst hst
      go_wp2
      go_ret
      exact ⟨rfl, hb⟩
end Go.Proofs.YtibhljdiofglfabDoor
