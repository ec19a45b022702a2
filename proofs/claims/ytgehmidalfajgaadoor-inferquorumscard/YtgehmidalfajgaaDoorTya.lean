/- A tally, as mathematics; the cells of sets, one behind the other. -/
import Derived.Test.YtgehmidalfajgaaDoorWth
import Derived.Test.YtgehmidalfajgaaDoorWtn
import Derived.Test.YtgehmidalfajgaaDoorYwa
namespace Go.Proofs.YtgehmidalfajgaaDoor
open Go.RowKit Go.Shelf

structure Tl where
  n : Int
  need : Int
  ro : Int
  reps : Nat
  hs : List Nat
def isN (id n : Int) : Bool := decide (0 ≤ id ∧ id < n)
def rdy (t : Tl) : Bool := decide (0 < t.need ∧ (t.hs.length : Int) = t.need)
def wthN (N : Nat) (id : Int) : Nat := if 0 ≤ id ∧ id < 100 then cln N ||| 2 ^ id.toNat else 0
/-- Which fate befalls a reply first; 5: none. -/
def fate (t : Tl) (f r : Int) (N : Nat) : Nat := if isN f t.n = false then 0 else if wthB N t.n = false then 1 else if r ≠ t.ro then 2 else if wthN t.reps f = t.reps then 3 else if rdy t = true then 4 else 5
def cntT (t : Tl) (f : Int) (N : Nat) : Tl := ⟨t.n, t.need, t.ro, wthN t.reps f, t.hs ++ [N]⟩
def tk (t : Tl) (f r : Int) (N : Nat) : Tl := if fate t f r N = 5 then cntT t f N else t
/-- What becomes of a reply; the error. -/
def kd (i : Nat) : Int := match i with | 0 => 5 | 1 => 0 | 2 => 2 | 3 => 3 | 4 => 4 | _ => 1
def ke (i : Nat) : Int := match i with | 1 => 74 | _ => 0
theorem fate_lt (t : Tl) (f r : Int) (N : Nat) : fate t f r N ≤ 5 := by
  unfold fate
  repeat' split
  all_goals omega
/-- A tally that can be. -/
structure Tv (t : Tl) : Prop where
  n0 : 0 ≤ t.n
  n1 : t.n ≤ 100
  d0 : 0 ≤ t.need
  d1 : t.need ≤ t.n
  d2 : 0 < t.n → 0 < t.need
  len : (t.hs.length : Int) ≤ t.need
  reps : t.reps < S100
  each : ∀ N ∈ t.hs, N < S128
theorem pow_S100 {i : Nat} (h : i < 100) : 2 ^ i < S100 := by
  have := Nat.pow_lt_pow_right (a := 2) (by decide) h
  exact this
theorem or_S100 {a b : Nat} (h1 : a < S100) (h2 : b < S100) : a ||| b < S100 := Nat.or_lt_two_pow (n := 100) h1 h2
theorem cln_id {N : Nat} (h : N < S100) : cln N = N := Nat.mod_eq_of_lt h
theorem wthN_lt (N : Nat) (id : Int) : wthN N id < S100 := by
  unfold wthN
  split
  · next h => exact or_S100 (cln_lt _) (pow_S100 (by omega))
  · decide
theorem S100_S128 {N : Nat} (h : N < S100) : N < S128 := Nat.lt_trans h (by decide)
theorem Tv.count {t : Tl} (h : Tv t) {f r : Int} {N : Nat} (hN : N < S128) (hf : fate t f r N = 5) : Tv (cntT t f N) := by
  have h1 := h.len
  have h2 := h.d2
  have ⟨a, b⟩ : isN f t.n = true ∧ ¬ rdy t = true := by
    unfold fate at hf
    repeat' split at hf
    all_goals first | omega | simp_all
  simp only [isN, rdy, decide_eq_true_eq] at a b
  have hn := h.n0
  refine ⟨h.n0, h.n1, h.d0, h.d1, h.d2, ?_, wthN_lt _ _, fun M hM => ?_⟩
  · simp only [cntT, List.length_append, List.length_cons, List.length_nil]
    omega
  · rcases List.mem_append.1 hM with q | q
    · exact h.each M q
    · simp at q
      subst q
      exact hN
theorem Tv.tk {t : Tl} (h : Tv t) {f r : Int} {N : Nat} (hN : N < S128) : Tv (tk t f r N) := by
  unfold Go.Proofs.YtgehmidalfajgaaDoor.tk
  split
  · next hf => exact h.count hN hf
  · exact h
/-- The cells of sets. -/
def f4 (N : Nat) : List Value := [.int .u32 (wd N 0 : Nat), .int .u32 (wd N 1 : Nat), .int .u32 (wd N 2 : Nat), .int .u32 (wd N 3 : Nat)]
def fs (l : List Nat) : List Value := l.flatMap f4
theorem fs_cons (x : Nat) (l : List Nat) : fs (x :: l) = .int .u32 (wd x 0 : Nat) :: .int .u32 (wd x 1 : Nat) :: .int .u32 (wd x 2 : Nat) :: .int .u32 (wd x 3 : Nat) :: fs l := rfl
theorem fs_append (a b : List Nat) : fs (a ++ b) = fs a ++ fs b := by simp [fs]
theorem fs_len : ∀ l : List Nat, (fs l).length = l.length * 4
  | [] => rfl
  | x :: l => by rw [fs_cons]; simp only [List.length_cons, fs_len l]; omega
theorem fs_get : ∀ (l : List Nat) (k x : Nat), l[k]? = some x → (fs l)[k * 4]? = some (.int .u32 (wd x 0 : Nat)) ∧ (fs l)[k * 4 + 1]? = some (.int .u32 (wd x 1 : Nat)) ∧ (fs l)[k * 4 + 2]? = some (.int .u32 (wd x 2 : Nat)) ∧ (fs l)[k * 4 + 3]? = some (.int .u32 (wd x 3 : Nat))
  | [], k, x, h => by simp at h
  | y :: l, 0, x, h => by
    simp at h
    subst h
    exact ⟨rfl, rfl, rfl, rfl⟩
  | y :: l, k + 1, x, h => by
    have ih := fs_get l k x (by simpa using h)
    rw [fs_cons, show (k + 1) * 4 = k * 4 + 4 by omega]
    exact ih
theorem fs_one (l : List Nat) : ∀ u ∈ fs l, u.oneCell' = true := by
  intro u hu
  simp only [fs, List.mem_flatMap, f4] at hu
  obtain ⟨x, _, hx⟩ := hu
  simp at hx
  rcases hx with rfl | rfl | rfl | rfl <;> rfl
theorem sv_inj {A B : Nat} (hA : A < S128) (hB : B < S128) (h : sv A = sv B) : A = B := by
  simp only [sv, Value.agg.injEq, Array.mk.injEq, List.cons.injEq, Value.int.injEq, Int.natCast_inj, and_true, true_and] at h
  obtain ⟨h0, h1, h2, h3⟩ := h
  rw [wd_0, wd_0] at h0
  rw [wd_1, wd_1] at h1
  rw [wd_2, wd_2] at h2
  rw [wd_3, wd_3] at h3
  unfold S128 at hA hB
  omega
end Go.Proofs.YtgehmidalfajgaaDoor
