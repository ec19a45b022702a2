/- What a reply that came is, if it comes once more: mathematics. -/
import Derived.Test.YtgehmidalfajgaaTyg
import Derived.Test.YtgehmidalfajgaaTyq
namespace Go.Proofs.Ytgehmidalfajgaa

theorem tko_same {t : Tl} {o : Rp} (h : fto t o ≠ 5) : tko t o = t := by
  exact if_neg h
theorem tko_cnt {t : Tl} {o : Rp} (h : fto t o = 5) : tko t o = cntT t o.f o.N := by
  exact if_pos h
theorem again_self {t : Tl} (h : Tv t) (o : Rp) : fto (tko t o) o ≠ 5 := by
  by_cases h5 : fto t o = 5
  · rw [tko_cnt h5]
    have h5' := h5
    unfold fto at h5' ⊢
    rw [fate_5] at h5'
    intro q
    rw [fate_5] at q
    exact q.2.2.2.1 (wthN_twice (isN_id h5'.1 h.n1) h.reps)
  · rw [tko_same h5]
    exact h5
theorem again_keep {t : Tl} (h : Tv t) (o p : Rp) (ho : fto t o ≠ 5) : fto (tko t p) o ≠ 5 := by
  by_cases h5 : fto t p = 5
  · rw [tko_cnt h5]
    unfold fto at h5
    rw [fate_5] at h5
    intro q
    unfold fto at q ho
    rw [fate_5] at q
    obtain ⟨q1, q2, q3, q4, q5⟩ := q
    refine ho (fate_5.2 ⟨q1, q2, q3, fun e => q4 ?_, h5.2.2.2.2⟩)
    have io : 0 ≤ o.f ∧ o.f < 100 := isN_id q1 h.n1
    have ip := isN_id h5.1 h.n1
    show wthN (wthN t.reps p.f) o.f = wthN t.reps p.f
    rw [wthN_in io (wthN_lt _ _), wthN_in ip h.reps, Nat.or_assoc, Nat.or_comm (2 ^ _), ← Nat.or_assoc, ← wthN_in io h.reps, e]
  · rw [tko_same h5]
    exact ho
theorem again_run {o : Rp} : ∀ (l : List Rp) {t : Tl}, Tv t → (∀ p ∈ l, p.N < S128) → fto t o ≠ 5 → fto (run t l) o ≠ 5
  | [], _, _, _, ho => ho
  | p :: l, t, h, hl, ho => again_run l (h.tk (hl p (by simp))) (fun x hx => hl x (by simp [hx])) (again_keep h o p ho)
theorem again_all : ∀ (l : List Rp) {t : Tl}, Tv t → (∀ p ∈ l, p.N < S128) → ∀ o ∈ l, fto (run t l) o ≠ 5
  | [], _, _, _, o, ho => by cases ho
  | p :: l, t, h, hl, o, ho => by
    have h' : Tv (tko t p) := h.tk (hl p (by simp))
    have hl' : ∀ x ∈ l, x.N < S128 := fun x hx => hl x (by simp [hx])
    rcases List.mem_cons.1 ho with e | e
    · subst e
      exact again_run l h' hl' (again_self h o)
    · exact again_all l h' hl' o e
/-- Again, or Late. -/
theorem again_has {t : Tl} (h : Tv t) {o : Rp} (i : Nat) (hi : i = 3 ∨ i = 4) (hf : fto t o = i) : hasB t.reps o.f = decide (i = 3) := by
  unfold fto fate at hf
  have h1 : isN o.f t.n = true := by
    cases q : isN o.f t.n
    · rw [if_pos q] at hf; omega
    · rfl
  have io := isN_id h1 h.n1
  rw [if_neg (by simp [h1])] at hf
  split at hf
  · omega
  split at hf
  · omega
  split at hf
  · next e =>
    rw [(wthN_bit io h.reps).1 e, ← hf]
    rfl
  · next e =>
    split at hf
    · rw [← hf]
      cases q : hasB t.reps o.f
      · rfl
      · exact absurd ((wthN_bit io h.reps).2 q) e
    · omega
theorem fto_2 {t : Tl} {o : Rp} (h : fto t o = 2) : o.r ≠ t.ro := by
  unfold fto fate at h
  split at h
  · omega
  split at h
  · omega
  split at h
  · next e => exact e
  · split at h
    · omega
    · split at h <;> omega
theorem fto_hi {t : Tl} {o : Rp} (h : 3 ≤ fto t o) : o.r = t.ro := by
  unfold fto fate at h
  split at h
  · omega
  split at h
  · omega
  split at h
  · omega
  · next e => exact Decidable.byContradiction e
theorem run_ro : ∀ (l : List Rp) (t : Tl), (run t l).ro = t.ro ∧ (run t l).n = t.n ∧ (run t l).need = t.need
  | [], _ => ⟨rfl, rfl, rfl⟩
  | o :: l, t => by
    have := run_ro l (tko t o)
    have e : (tko t o).ro = t.ro ∧ (tko t o).n = t.n ∧ (tko t o).need = t.need := by
      unfold tko tk
      split <;> exact ⟨rfl, rfl, rfl⟩
    exact ⟨this.1.trans e.1, this.2.1.trans e.2.1, this.2.2.trans e.2.2⟩
end Go.Proofs.Ytgehmidalfajgaa
