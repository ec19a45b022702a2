/- The document's Count and place: what they answer, at every text of at most 2^20 bytes. -/
import Derived.Test.YtibhljdiofglfaaDoorRrn
namespace Go.Proofs.YtibhljdiofglfaaDoor
open Go.RowKit Go.Shelf

theorem below_drewN {n : Nat} {w a : World} (h : Below n w a) (k : Nat) : Below n w (a.drewN k) := h.trans ⟨rfl, rfl, rfl, Nat.le_refl _, fun _ _ => rfl⟩

set_option maxHeartbeats 1000000 in
theorem refCount_any (s : ByteArray) (hs : s.size ≤ 1048576) (w : World) :
    Calls Tryd.prog 26 #[.string s] w fun e w' => e = .returned (.int .i64 (starts s).length) ∧ Below w.heap.size w w' := by
  have hlen := starts_length s
  go_enter Tryd.func26, Tryd.ntmps26
  go_wp2
  go_loopw [3, 4] (fun c i wr => ∃ (pos fuel : Nat) (pre : List Nat), starts s = pre ++ startsFrom s fuel pos ∧ s.size ≤ pos + fuel ∧ c = .int .i64 pre.length ∧ i = .int .i64 pos ∧ Below w.heap.size w wr) (fun _ i _ => s.size - vnatD i)
  case atStart => exact ⟨0, s.size, [], rfl, by omega, rfl, rfl, Below.refl _ w⟩
  case round =>
    obtain ⟨pos, fuel, pre, hst, hfu, rfl, rfl, hb⟩ := hrel
    by_cases hp : pos < s.size
    · obtain ⟨f, rfl⟩ : ∃ f, fuel = f + 1 := ⟨fuel - 1, by omega⟩
      rw [startsFrom_step s f pos hp] at hst
      have hll : pre.length + 1 ≤ s.size := by rw [hst] at hlen; simp at hlen; omega
      have hw1 := wd_le s pos hp
      have hw0 := wd_pos s pos
      have hpi : (pos : Int) < (s.size : Int) := by omega
      have HS : Hid (starts s = pre ++ pos :: startsFrom s f (pos + wd s pos)) := hst
      clear hst
      go_wp2_with fail
      refine (at_any s (by omega) pos hp _).mono ?_
      rintro e w1 ⟨rfl, nq, rfl⟩
      have hb1 := below_drewN hb nq
      go_wp2
      go_roundw
      case rel => exact ⟨pos + wd s pos, f, pre ++ [pos], by rw [HS.out]; simp, by omega, by simp, by push_cast; rfl, hb1⟩
      case measure =>
        simp [vnatD]
        omega
    · rw [startsFrom_end s fuel pos hp, List.append_nil] at hst
      subst hst
      go_wp2
      go_ret
      exact ⟨rfl, hb⟩

/-- The line of the byte k, and where that line begins. -/
def plc (s : ByteArray) : Nat → Nat × Nat
  | 0 => (1, 0)
  | k + 1 => if byt s k = 10 then ((plc s k).1 + 1, k + 1) else plc s k
theorem plc_le (s : ByteArray) : ∀ k, (plc s k).1 ≤ k + 1 ∧ (plc s k).2 ≤ k
  | 0 => ⟨Nat.le_refl _, Nat.le_refl _⟩
  | k + 1 => by
    have ih := plc_le s k
    rw [plc]
    split
    · exact ⟨by dsimp only; omega, Nat.le_refl _⟩
    · omega
set_option maxHeartbeats 4000000 in
set_option maxRecDepth 100000 in
theorem place_any (s : ByteArray) (hs : s.size ≤ 65536) (p : Nat) (hp : p ≤ s.size) (w : World) : Calls Tryd.prog 28 #[.string s, .int .i64 (p : Int)] w fun e w' => e = .returned (.tuple #[.int .i64 (plc s p).1, .int .i64 (((starts (s.extract (plc s p).2 p)).length : Int) + 1)]) ∧ Below w.heap.size w w' := by
  have hct := refCount_any (s.extract (plc s p).2 p) (by simp; omega)
  have hln := starts_length (s.extract (plc s p).2 p)
  have hex : (s.extract (plc s p).2 p).size ≤ 65536 := by simp; omega
  generalize (starts (s.extract (plc s p).2 p)).length = C at *
  go_enter Tryd.func28, Tryd.ntmps28
  go_wp2
  go_loopw [6, 7, 8] (fun c f i wr => ∃ k : Nat, i = .int .i64 (k : Int) ∧ k ≤ p ∧ c = .int .i64 ((plc s k).1 : Int) ∧ f = .int .i64 ((plc s k).2 : Int) ∧ wr = w) (fun _ _ i _ => p - vnatD i)
  case atStart => exact ⟨0, rfl, Nat.zero_le _, rfl, rfl, rfl⟩
  case round =>
    obtain ⟨k, rfl, hk, rfl, rfl, rfl⟩ := hrel
    have hpl := plc_le s k
    by_cases hkl : k < p
    · have hlt : k < s.size := by omega
      have hki : (k : Int) < (p : Int) := by omega
      have hks : (k : Int) < (s.size : Int) := by omega
      have hby := byt_get hlt
      have hst : plc s (k + 1) = if byt s k = 10 then ((plc s k).1 + 1, k + 1) else plc s k := rfl
      by_cases hn : byt s k = 10
      · rw [if_pos hn] at hst
        have hn' : (s[k]'hlt).toNat = 10 := by omega
        have H1 : Hid ((plc s (k + 1)).1 = (plc s k).1 + 1) := by show (plc s (k + 1)).1 = _; rw [hst]
        have H2 : Hid ((plc s (k + 1)).2 = k + 1) := by show (plc s (k + 1)).2 = _; rw [hst]
        clear hst hby hn
        go_wp2
        go_roundw
        case rel => exact ⟨k + 1, by push_cast; rfl, by omega, by rw [H1.out]; push_cast; rfl, by rw [H2.out]; push_cast; rfl, trivial⟩
        case measure => simp [vnatD]; omega
      · rw [if_neg hn] at hst
        have hn' : (((s[k]'hlt).toNat : Int) == 10) = false := beq_eq_false_iff_ne.2 (by omega)
        have H1 : Hid (plc s (k + 1) = plc s k) := hst
        clear hst hby hn
        go_wp2
        go_roundw
        case rel => exact ⟨k + 1, by push_cast; rfl, by omega, by rw [H1.out], by rw [H1.out], trivial⟩
        case measure => simp [vnatD]; omega
    · obtain rfl : k = p := by omega
      have q1 : (0 : Int) ≤ ((plc s k).2 : Int) := by omega
      have q2 : ((plc s k).2 : Int) ≤ (k : Int) := by omega
      have q3 : (k : Int) ≤ (s.size : Int) := by omega
      generalize hE : s.extract (plc s k).2 k = E at *
      go_wp2_with (go_at_call 26; (with_reducible refine (hct _).mono ?_); rintro e u1 ⟨rfl, hb1⟩)
      go_ret2
      exact ⟨rfl, hb1⟩
end Go.Proofs.YtibhljdiofglfaaDoor
