/- idset.Order, Subset, Has; cmp.Compare: what they answer, at every input. -/
import Derived.Test.YtnomeinppdnhfaaGreatCnt
namespace Go.Proofs.YtnomeinppdnhfaaGreat
open Go.RowKit Go.Shelf Go.Lib

def cmpN (a b : Nat) : Int := if a < b then -1 else if b < a then 1 else 0
theorem cmp_wd (M M' l : Nat) (hM : M < S128) (hM' : M' < S128) (hl : l < 4) (he : ∀ j, l < j → j < 4 → wd M j = wd M' j) (hn : wd M l ≠ wd M' l) : cmpN (wd M l) (wd M' l) = cmpN M M' := by
  have e1 := join_wd M hM
  have e2 := join_wd M' hM'
  have b0 := wd_lt M 0
  have b1 := wd_lt M 1
  have b2 := wd_lt M 2
  have b3 := wd_lt M 3
  have c0 := wd_lt M' 0
  have c1 := wd_lt M' 1
  have c2 := wd_lt M' 2
  have c3 := wd_lt M' 3
  have key : (wd M l < wd M' l → M < M') ∧ (wd M' l < wd M l → M' < M) := by
    unfold joinW at e1 e2
    match l, hl with
    | 0, _ =>
      have h1 := he 1 (by decide) (by decide)
      have h2 := he 2 (by decide) (by decide)
      have h3 := he 3 (by decide) (by decide)
      generalize wd M 0 = a0 at *; generalize wd M 1 = a1 at *; generalize wd M 2 = a2 at *; generalize wd M 3 = a3 at *
      generalize wd M' 0 = d0 at *; generalize wd M' 1 = d1 at *; generalize wd M' 2 = d2 at *; generalize wd M' 3 = d3 at *
      omega
    | 1, _ =>
      have h2 := he 2 (by decide) (by decide)
      have h3 := he 3 (by decide) (by decide)
      generalize wd M 0 = a0 at *; generalize wd M 1 = a1 at *; generalize wd M 2 = a2 at *; generalize wd M 3 = a3 at *
      generalize wd M' 0 = d0 at *; generalize wd M' 1 = d1 at *; generalize wd M' 2 = d2 at *; generalize wd M' 3 = d3 at *
      omega
    | 2, _ =>
      have h3 := he 3 (by decide) (by decide)
      generalize wd M 0 = a0 at *; generalize wd M 1 = a1 at *; generalize wd M 2 = a2 at *; generalize wd M 3 = a3 at *
      generalize wd M' 0 = d0 at *; generalize wd M' 1 = d1 at *; generalize wd M' 2 = d2 at *; generalize wd M' 3 = d3 at *
      omega
    | 3, _ =>
      generalize wd M 0 = a0 at *; generalize wd M 1 = a1 at *; generalize wd M 2 = a2 at *; generalize wd M 3 = a3 at *
      generalize wd M' 0 = d0 at *; generalize wd M' 1 = d1 at *; generalize wd M' 2 = d2 at *; generalize wd M' 3 = d3 at *
      omega
  unfold cmpN
  by_cases h : wd M l < wd M' l
  · rw [if_pos h, if_pos (key.1 h)]
  · have h2 : wd M' l < wd M l := by omega
    have := key.2 h2
    rw [if_neg h, if_pos h2, if_neg (by omega), if_pos this]
theorem cmpN_self (a : Nat) : cmpN a a = 0 := by simp [cmpN]

theorem hold4 {w : World} {b B M : Nat} (h : B ≠ b) : (set4 w b M).heap[B]? = w.heap[B]? := by
  unfold set4
  rw [Below.heap_setCell _ _ _ _ h, Below.heap_setCell _ _ _ _ h, Below.heap_setCell _ _ _ _ h, Below.heap_setCell _ _ _ _ h]
theorem wstore4 (w : World) (b : Nat) (c : Nat → Nat) (M : Nat) (h : Holds4 w b c) : (Instr.storeAt 41 (.pointer (some ⟨b, 0, none⟩)) (sv M)).run Tryz.prog w = .ok () (set4 w b M) := by
  obtain ⟨y0, y1, y2, y3, z0, z1, z2, z3⟩ := h.facts
  unfold sv set4
  go_simp
theorem neg_ofNat4 (k : Nat) (hk : k < 4) : IntKind.i64.wrap (3 - (k : Int)) = ((3 - k : Nat) : Int) := by rw [IntKind.wrap_i64]; omega
end Go.Proofs.YtnomeinppdnhfaaGreat
