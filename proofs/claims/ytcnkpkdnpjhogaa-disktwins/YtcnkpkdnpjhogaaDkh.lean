/- Writes one behind the other: what a disk with a fuse is behind them. -/
import Derived.Test.YtcnkpkdnpjhogaaDkg
namespace Go.Proofs.Ytcnkpkdnpjhogaa
open Go.RowKit Go.Shelf

theorem dWr_fz {d : Dst} {s : Int} {x : List Nat} (h : Fz d) : Fz (dWr d s x).2 := by
  unfold dWr
  split
  · exact h
  · split
    · exact h
    · split
      · exact h
      · split
        · intro q
          simp [dFuse] at q
        · rename_i h4
          intro q
          have q' : d.fused = true := q
          obtain ⟨h1, h2⟩ := h q'
          have h3 : d.fuse ≠ 0 := fun e => h4 (by simp [left, q', e])
          have e : ({ dBurn { d with l := putS d.l s.toNat x } with writes := d.writes + 1 } : Dst).fuse = d.fuse - 1 := by simp [dBurn, q']
          rw [e]
          omega
theorem dWr_writes {d : Dst} {s : Int} {x : List Nat} (h : 0 ≤ d.writes) : 0 ≤ (dWr d s x).2.writes ∧ (dWr d s x).2.writes ≤ d.writes + 1 := by
  unfold dWr
  split
  · dsimp only; omega
  · split
    · dsimp only; omega
    · split
      · dsimp only; omega
      · split
        · dsimp only [dFuse]; omega
        · dsimp only; omega
/-- A disk with a fuse of k, behind i writes: what it tells. -/
structure Fb (k i : Nat) (d : Dst) : Prop where
  w : d.writes = (min k i : Nat)
  o : d.off = decide (k < i)
  f : k < i → d.fused = false
  g : i ≤ k → d.fused = true ∧ d.fuse = ((k - i : Nat) : Int)
theorem Fb.fz {k i : Nat} {d : Dst} (h : Fb k i d) (hk : k ≤ 200) : Fz d := by
  intro q
  by_cases hi : i ≤ k
  · have := (h.g hi).2
    omega
  · rw [h.f (by omega)] at q
    cases q
theorem fb_0 (k : Nat) : Fb k 0 (dFuse d0 (k : Int)) := by
  refine ⟨by show (0 : Int) = _; simp, by show false = _; simp, fun h => absurd h (Nat.not_lt_zero _), fun _ => ⟨by simp [dFuse], by simp [dFuse]⟩⟩
theorem fb_step {k i : Nat} {d : Dst} (h : Fb k i d) (s : Int) (hs : 0 ≤ s ∧ s < 8) (x : List Nat) (hx : x.length = 32) : Fb k (i + 1) (dWr d s x).2 ∧ (dWr d s x).1 = if i < k then 0 else 100 := by
  by_cases h1 : k < i
  · have ho : d.off = true := by rw [h.o, decide_eq_true h1]
    rw [dWr_off s x ho, if_neg (by omega)]
    refine ⟨⟨by rw [h.w]; congr 1; omega, by rw [ho, decide_eq_true (by omega)], fun _ => h.f h1, fun q => by omega⟩, rfl⟩
  · have ho : d.off = false := by rw [h.o, decide_eq_false h1]
    obtain ⟨h2, h3⟩ := h.g (by omega)
    by_cases h4 : i = k
    · have hl : left d = 0 := by rw [left, if_pos h2, h3]; omega
      rw [dWr_blow ho hs hx hl, if_neg (by omega)]
      refine ⟨⟨?_, ?_, fun _ => by simp [dFuse], fun q => by omega⟩, rfl⟩
      · show d.writes = _
        rw [h.w]
        congr 1
        omega
      · show true = _
        rw [decide_eq_true (by omega)]
    · have hl : ¬ left d = 0 := by rw [left, if_pos h2, h3]; omega
      rw [dWr_ok ho hs hx hl, if_pos (by omega)]
      refine ⟨⟨?_, ?_, fun q => by omega, fun q => ⟨?_, ?_⟩⟩, rfl⟩
      · show d.writes + 1 = _
        rw [h.w]
        have : min k (i + 1) = min k i + 1 := by omega
        rw [this]
        rfl
      · show d.off = _
        rw [ho, decide_eq_false (by omega)]
      · exact h2
      · show (if d.fused = true then d.fuse - 1 else d.fuse) = _
        rw [if_pos h2, h3]
        omega
end Go.Proofs.Ytcnkpkdnpjhogaa
