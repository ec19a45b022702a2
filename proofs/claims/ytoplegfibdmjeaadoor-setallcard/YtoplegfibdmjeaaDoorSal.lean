/- What both sides count in SetAll; Of of a set's own ids. -/
import Derived.Test.YtoplegfibdmjeaaDoorIdm
import Derived.Test.YtoplegfibdmjeaaDoorHas
namespace Go.Proofs.YtoplegfibdmjeaaDoor
open Go.RowKit

def tw (Y : List Nat) (x : Nat) : Nat := (Y.takeWhile (fun y => decide (y ≤ x))).length
def sm (Y X : List Nat) : Nat := (X.map (tw Y)).sum
theorem tw_le (Y : List Nat) (x : Nat) : tw Y x ≤ Y.length := (List.takeWhile_sublist _).length_le
theorem sm_snoc (Y X : List Nat) (x : Nat) : sm Y (X ++ [x]) = sm Y X + tw Y x := by simp [sm]
theorem sm_le (Y : List Nat) : ∀ X : List Nat, sm Y X ≤ X.length * Y.length
  | [] => by simp [sm]
  | x :: X => by
    have h1 := sm_le Y X
    have h2 := tw_le Y x
    have e : sm Y (x :: X) = tw Y x + sm Y X := by simp [sm]
    rw [e, List.length_cons, Nat.add_mul, Nat.one_mul]
    omega
theorem tw_all {Y : List Nat} {x : Nat} (h : ∀ z ∈ Y, z ≤ x) : tw Y x = Y.length := by
  unfold tw
  congr 1
  induction Y with
  | nil => rfl
  | cons a Y ih => rw [List.takeWhile_cons, if_pos (by simpa using h a (List.mem_cons_self ..)), ih (fun z hz => h z (List.mem_cons_of_mem _ hz))]
theorem tw_stop {Y pre : List Nat} {x y : Nat} (hp : pre ++ [y] <+: Y) (h : ∀ z ∈ pre, z ≤ x) (hy : x < y) : tw Y x = pre.length := by
  obtain ⟨r, rfl⟩ := hp
  unfold tw
  rw [List.append_assoc, List.takeWhile_append_of_pos (by simpa using h)]
  rw [show [y] ++ r = y :: r from rfl, List.takeWhile_cons]
  rw [if_neg (by simp; omega)]
  simp
theorem tw_at {Y : List Nat} {x j : Nat} (hj : j ≤ Y.length) (h : ∀ z ∈ Y.take j, z ≤ x) (hs : ∀ y, Y[j]? = some y → x < y) : tw Y x = j := by
  by_cases hl : j < Y.length
  · obtain ⟨y, hy⟩ : ∃ y, Y[j]? = some y := ⟨_, List.getElem?_eq_getElem hl⟩
    have hp : Y.take j ++ [y] <+: Y := by
      have e : Y.take (j + 1) = Y.take j ++ [y] := by rw [List.take_add_one, hy]; rfl
      rw [← e]
      exact List.take_prefix _ _
    rw [tw_stop hp h (hs y hy), List.length_take]
    omega
  · have e : j = Y.length := by omega
    subst e
    rw [List.take_length] at h
    exact tw_all h
theorem ofN_ids (M : Nat) : ∀ (l : List Nat) (N : Nat), (∀ x ∈ l, x < 100) → ∃ R, ofN (l.map (fun x : Nat => (x : Int))) N = some R ∧ ∀ i, R.testBit i = (N.testBit i || decide (i ∈ l))
  | [], N, _ => ⟨N, rfl, fun i => by simp⟩
  | x :: l, N, h => by
    have hx := h x (List.mem_cons_self ..)
    obtain ⟨R, h1, h2⟩ := ofN_ids M l (N ||| 2 ^ x) (fun y hy => h y (List.mem_cons_of_mem _ hy))
    refine ⟨R, ?_, fun i => ?_⟩
    · rw [List.map_cons, ofN, if_pos ⟨by omega, by omega⟩]
      exact h1
    · rw [h2 i, Nat.testBit_or, Nat.testBit_two_pow]
      by_cases e : x = i
      · subst e; simp
      · have e2 : ¬ i = x := fun q => e q.symm
        simp [e, e2]
theorem ofN_own (N : Nat) : ofN ((idsTo (cln N) 128).map (fun x : Nat => (x : Int))) 0 = some (cln N) := by
  obtain ⟨R, h1, h2⟩ := ofN_ids 0 (idsTo (cln N) 128) 0 (fun x hx => by
    have := (mem_idsTo.1 hx).2
    rw [testBit_cln] at this
    simp at this
    exact this.1)
  rw [h1]
  congr 1
  apply Nat.eq_of_testBit_eq
  intro i
  rw [h2 i]
  have e : (i ∈ idsTo (cln N) 128) = ((cln N).testBit i = true) := by
    rw [mem_idsTo]
    apply propext
    constructor
    · exact fun h => h.2
    · intro h
      refine ⟨?_, h⟩
      rw [testBit_cln] at h
      simp at h
      omega
  simp [e]
end Go.Proofs.YtoplegfibdmjeaaDoor
