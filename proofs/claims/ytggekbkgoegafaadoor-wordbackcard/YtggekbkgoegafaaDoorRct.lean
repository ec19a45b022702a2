/- The document's Count and place: what they answer, at every text of at most 2^20 bytes. -/
import Derived.Test.YtggekbkgoegafaaDoorRrn
namespace Go.Proofs.YtggekbkgoegafaaDoor
open Go.RowKit Go.Shelf

theorem below_drewN {n : Nat} {w a : World} (h : Below n w a) (k : Nat) : Below n w (a.drewN k) := h.trans ⟨rfl, rfl, rfl, Nat.le_refl _, fun _ _ => rfl⟩

set_option maxHeartbeats 1000000 in
theorem refCount_any (s : ByteArray) (hs : s.size ≤ 1048576) (w : World) :
    Calls Tryd.prog 44 #[.string s] w fun e w' => e = .returned (.int .i64 (starts s).length) ∧ Below w.heap.size w w' := by
  have hlen := starts_length s
  go_enter Tryd.func44, Tryd.ntmps44
  go_wp2
  go_loopw [3, 4] (fun c i wr => ∃ (pos fuel : Nat) (pre : List Nat), starts s = pre ++ startsFrom s fuel pos ∧ s.size ≤ pos + fuel ∧ c = .int .i64 pre.length ∧ i = .int .i64 pos ∧ Below w.heap.size w wr) (fun _ i _ => s.size - vnatD i)
  case atStart => exact ⟨0, s.size, [], rfl, by omega, rfl, rfl, Below.refl _ w⟩
  case round =>
    obtain ⟨pos, fuel, pre, hst, hfu, rfl, rfl, hb⟩ := hrel
    by_cases hp : pos < s.size
    · obtain ⟨f, rfl⟩ : ∃ f, fuel = f + 1 := ⟨fuel - 1, by omega⟩
      rw [startsFrom_step s f pos hp] at hst
      have hll : pre.length + 1 ≤ s.size := by rw [hst] at hlen; simp at hlen; omega
      have hw1 := wd_le s pos hp
      have hw0 := wd_pos s pos
      have hpi : (pos : Int) < (s.size : Int) := by omega
      have HS : Hid (starts s = pre ++ pos :: startsFrom s f (pos + wd s pos)) := hst
      clear hst
      go_wp2_with fail
      refine (at_any s (by omega) pos hp _).mono ?_
      rintro e w1 ⟨rfl, nq, rfl⟩
      have hb1 := below_drewN hb nq
      go_wp2
      go_roundw
      case rel => exact ⟨pos + wd s pos, f, pre ++ [pos], by rw [HS.out]; simp, by omega, by simp, by push_cast; rfl, hb1⟩
      case measure =>
        simp [vnatD]
        omega
    · rw [startsFrom_end s fuel pos hp, List.append_nil] at hst
      subst hst
      go_wp2
      go_ret
      exact ⟨rfl, hb⟩

/-- The line of the byte k, and where that line begins. -/
def plc (s : ByteArray) : Nat → Nat × Nat
  | 0 => (1, 0)
  | k + 1 => if byt s k = 10 then ((plc s k).1 + 1, k + 1) else plc s k
theorem plc_le (s : ByteArray) : ∀ k, (plc s k).1 ≤ k + 1 ∧ (plc s k).2 ≤ k
  | 0 => ⟨Nat.le_refl _, Nat.le_refl _⟩
  | k + 1 => by
    have ih := plc_le s k
    rw [plc]
    split
    · exact ⟨by dsimp only; omega, Nat.le_refl _⟩
    · omega
end Go.Proofs.YtggekbkgoegafaaDoor
