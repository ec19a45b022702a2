/- The characters of a line in their order; what lies within a word is skipped. -/
import Derived.Test.YtibhljdiofglfaaDoorRsg
namespace Go.Proofs.YtibhljdiofglfaaDoor
open Go.RowKit Go.Shelf

def chp (x : ByteArray) : Nat → Nat
  | 0 => 0
  | n + 1 => chp x n + wd x (chp x n)
theorem chAt_chp {x : ByteArray} {p c : Nat} (h : ChAt x p c) : p = chp x c := by
  induction h with
  | zero => rfl
  | step h hp ih => rw [chp, ← ih]
theorem chp_lt (x : ByteArray) : ∀ (d c : Nat), chp x c + d ≤ chp x (c + d)
  | 0, c => Nat.le_refl _
  | d + 1, c => by
    have ih := chp_lt x d c
    have hw := wd_pos x (chp x (c + d))
    have e : chp x (c + (d + 1)) = chp x (c + d) + wd x (chp x (c + d)) := rfl
    omega
theorem chAt_lt2 {x : ByteArray} {p c q d : Nat} (h : ChAt x p c) (h' : ChAt x q d) (hpq : p < q) : c < d ∧ p + wd x p ≤ q := by
  have e := chAt_chp h
  have e' := chAt_chp h'
  have hcd : c < d := by
    rcases Nat.lt_or_ge c d with k | k
    · exact k
    · have := chp_lt x (c - d) d
      rw [show d + (c - d) = c by omega] at this
      omega
  have := chp_lt x (d - (c + 1)) (c + 1)
  rw [show c + 1 + (d - (c + 1)) = d by omega, chp, ← e] at this
  exact ⟨hcd, by omega⟩
theorem chAt_same {x : ByteArray} {p c d : Nat} (h : ChAt x p c) (h' : ChAt x p d) : c = d := by
  have e := chAt_chp h
  have e' := chAt_chp h'
  rcases Nat.lt_trichotomy c d with k | k | k
  · have := chp_lt x (d - c) c
    rw [show c + (d - c) = d by omega] at this
    omega
  · exact k
  · have := chp_lt x (c - d) d
    rw [show d + (c - d) = c by omega] at this
    omega
/-- Characters behind characters. -/
theorem chAt_add {s : ByteArray} {a M p c : Nat} (h : a + M ≤ s.size) (hend : a + M = s.size ∨ byt s (a + M) < 128) (hp : p ≤ M) (h1 : ChAt (s.extract a (a + M)) p c) {r d : Nat} (h2 : ChAt (s.extract (a + p) (a + p + (M - p))) r d) : ChAt (s.extract a (a + M)) (p + r) (c + d) := by
  have hbm : a + p + (M - p) = a + M := by omega
  have hsz : (s.extract a (a + M)).size = M := by simp; omega
  have hysz : (s.extract (a + p) (a + p + (M - p))).size = M - p := by simp; omega
  induction h2 with
  | zero => exact h1
  | @step r d h2 hr ih =>
    have e1 := wd_line s a M (p + r) h (by omega) hend
    have e2 := wd_line s (a + p) (M - p) r (by omega) (by omega) (by rw [hbm]; exact hend)
    rw [e2, Nat.add_assoc a p r, ← e1]
    have := ih.step (by omega)
    rw [← Nat.add_assoc, ← Nat.add_assoc]
    exact this
/-- What lies within a word is skipped. -/
theorem cut_to (x : ByteArray) (nx c : Nat) (acc : List Tok) (hn : ChAt x nx c) : ∀ (f p col : Nat), ChAt x p col → p ≤ nx → x.size < p + f → ∃ g, x.size < nx + g ∧ cutAt x f p nx col acc = cutAt x g nx nx c acc
  | 0, p, col, h, _, hf => by have := chAt_le h; omega
  | f + 1, p, col, h, hpn, hf => by
    by_cases e : p = nx
    · subst e
      obtain rfl := chAt_same h hn
      exact ⟨f + 1, hf, rfl⟩
    · have hlt : p < nx := by omega
      have hns := chAt_le hn
      have h2 := chAt_lt2 h hn hlt
      have hw := wd_pos x p
      obtain ⟨g, hg, eg⟩ := cut_to x nx c acc hn f (p + wd x p) (col + 1) (h.step (by omega)) h2.2 (by omega)
      exact ⟨g, hg, by rw [cut_skip x f p nx col acc (by omega) hlt]; exact eg⟩
/-- Within a line the place's line is the same. -/
theorem plc_line (s : ByteArray) (a ln : Nat) (h : plc s a = (ln, a)) : ∀ r, (∀ k, k < r → byt s (a + k) ≠ 10) → plc s (a + r) = (ln, a)
  | 0, _ => h
  | r + 1, hk => by
    rw [← Nat.add_assoc, plc, if_neg (hk r (by omega))]
    exact plc_line s a ln h r (fun k hr => hk k (by omega))
end Go.Proofs.YtibhljdiofglfaaDoor
