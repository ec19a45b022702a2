/- notice.Rank, and the document's: what they answer, at every notice. -/
import Derived.Test.YtklnfbanfgdgcaaGreatDoorJnJ6
import Derived.Test.YtklnfbanfgdgcaaGreatDoorProg
import Derived.Test.YtklnfbanfgdgcaaGreatDoorJnJ0
import Derived.Shelf.Abstract
import Derived.Shelf.RegionOpen
import Derived.WalkKit
import Derived.WalkSpells
import Derived.OwnWalkIn
import Derived.TacticsInMore
import Derived.LoopNIn
import Derived.LoopIn
import Derived.Lib.OthersKept
import Derived.Deep.Light
import Derived.Laws.ResultCell
import Derived.Laws.Rows
import Derived.Test.YtklnfbanfgdgcaaGreatDoorJnJ3
import Derived.Test.YtklnfbanfgdgcaaGreatDoorJnJ1
set_option maxHeartbeats 40000000
set_option maxRecDepth 100000
set_option linter.unusedVariables false
namespace Go.Proofs.YtklnfbanfgdgcaaGreatDoor
open Go.RowKit Go.Shelf

/-- A notice's value. -/
def nt (o t k : Int) : Value := .agg #[.int .i64 o, .int .i64 t, .int .i64 k]
/-- Its rank. -/
def rk (t k : Int) : Int := if t < 0 ∨ 1048576 < t then -1 else if k = 1 then 2 * t else if k = 2 then 2 * t + 1 else -1
theorem rk_lo {t k : Int} (h : t < 0 ∨ 1048576 < t) : rk t k = -1 := if_pos h
theorem rk_m {t : Int} (h : ¬ (t < 0 ∨ 1048576 < t)) : rk t 1 = 2 * t := by rw [rk, if_neg h, if_pos rfl]
theorem rk_s {t : Int} (h : ¬ (t < 0 ∨ 1048576 < t)) : rk t 2 = 2 * t + 1 := by rw [rk, if_neg h, if_neg (by decide), if_pos rfl]
theorem rk_n {t k : Int} (h1 : ¬ k = 1) (h2 : ¬ k = 2) : rk t k = -1 := by rw [rk, if_neg h1, if_neg h2]; split <;> rfl

set_option maxHeartbeats 1000000 in
theorem rank_any (o t k : Int) (w : World) : Calls Tryz.prog 297 #[nt o t k] w fun e w' => e = .returned (.int .i64 (rk t k)) ∧ Below w.heap.size w w' := by
  unfold nt
  by_cases h : t < 0 ∨ 1048576 < t
  · rw [rk_lo h]
    rcases h with h | h
    all_goals
      go_enter Tryz.func297, Tryz.ntmps297
      go_wp2
      go_ret
      exact ⟨rfl, (Below.refl _ w).alloc (Nat.le_refl _) _⟩
  · have h0 : ¬ t < 0 := by omega
    have h1 : ¬ 1048576 < t := by omega
    by_cases k1 : k = 1
    · subst k1
      rw [rk_m h]
      go_enter Tryz.func297, Tryz.ntmps297
      go_wp2
      go_ret
      exact ⟨rfl, (Below.refl _ w).alloc (Nat.le_refl _) _⟩
    · by_cases k2 : k = 2
      · subst k2
        rw [rk_s h]
        go_enter Tryz.func297, Tryz.ntmps297
        go_wp2
        go_ret
        exact ⟨rfl, (Below.refl _ w).alloc (Nat.le_refl _) _⟩
      · rw [rk_n k1 k2]
        go_enter Tryz.func297, Tryz.ntmps297
        go_wp2
        go_ret
        exact ⟨rfl, (Below.refl _ w).alloc (Nat.le_refl _) _⟩

theorem al1 (w : World) (a : Obj) : Below w.heap.size w (w.alloc a) := (Below.refl _ w).alloc (Nat.le_refl _) _
theorem al2 (w : World) (a b : Obj) : Below w.heap.size w ((w.alloc a).alloc b) := (al1 w a).alloc (al1 w a).size _
theorem al3 (w : World) (a b c : Obj) : Below w.heap.size w (((w.alloc a).alloc b).alloc c) := (al2 w a b).alloc (al2 w a b).size _
/-- A box that holds a notice. -/
def NB (W : World) (B : Nat) (o t k : Int) : Prop := W.heap[B]? = some (.cells #[.int .i64 o, .int .i64 t, .int .i64 k] 185 (0, 0))
theorem NB.carry {W W' : World} {B : Nat} {o t k : Int} (h : NB W B o t k) (hb : Below W.heap.size W W') : NB W' B o t k := (hb.block _ (lt_at h)).trans h
theorem NB.new (W : World) (o t k : Int) : NB (W.alloc (.cells #[.int .i64 o, .int .i64 t, .int .i64 k] 185)) W.heap.size o t k := new_at rfl
theorem NB.c0 {W : World} {B : Nat} {o t k : Int} (h : NB W B o t k) : W.cell? ⟨B, 0, none⟩ = some (.int .i64 o) := cell_at h 0
theorem NB.c1 {W : World} {B : Nat} {o t k : Int} (h : NB W B o t k) : W.cell? ⟨B, 1, none⟩ = some (.int .i64 t) := cell_at h 1
theorem NB.c2 {W : World} {B : Nat} {o t k : Int} (h : NB W B o t k) : W.cell? ⟨B, 2, none⟩ = some (.int .i64 k) := cell_at h 2
theorem load_nt {W : World} {B : Nat} {o t k : Int} (h : NB W B o t k) : (Instr.loadAt 185 (.pointer (some ⟨B, 0, none⟩))).run Tryz.prog W = .ok (nt o t k) W := by
  have c0 := cell_at h 0
  have c1 := cell_at h 1
  have c2 := cell_at h 2
  unfold nt
  go_simp
theorem load_n0 {W : World} {B : Nat} {o t k : Int} (h : NB W B o t k) : (Instr.loadAt 3 (.pointer (some ⟨B, 0, none⟩))).run Tryz.prog W = .ok (.int .i64 o) W := by
  have c0 := cell_at h 0
  go_simp
theorem field_n0 (W : World) (B : Nat) : (Instr.fieldAt 185 (.pointer (some ⟨B, 0, none⟩)) 0).run Tryz.prog W = .ok (.pointer (some ⟨B, 0, none⟩)) W := by go_simp
theorem bin_eqn {x y : Operand} {w : World} (o t k o' t' k' : Int) : binRun Tryz.prog .eql 185 x y (nt o t k) (nt o' t' k') w = .ok (.bool (decide (o = o' ∧ t = t' ∧ k = k'))) w := by
  unfold binRun nt
  by_cases h : o = o'
  · by_cases h1 : t = t'
    · by_cases h2 : k = k' <;> go_simp
    · go_simp
  · go_simp
theorem retN {f : Func} {p : Tmp} {R : Ending → World → Prop} {a : Act} {w : World} {b : Nat} {o t k : Int} (hres : f.results = #[.cell p 185]) (hp : a.tmps.getD p undef = .pointer (some ⟨b, 0, none⟩)) (hd : a.defers = []) (h : NB w b o t k) (hR : R (.returned (nt o t k)) w) : bodyPost Tryz.prog f R .ret a w := by
  refine bodyPost_ret (v := nt o t k) ?_ hd hR
  have hp' : a.tmps[p]?.getD undef = .pointer (some ⟨b, 0, none⟩) := by simpa using hp
  have c0 := h.c0
  have c1 := h.c1
  have c2 := h.c2
  simp [results, hres, hp', asAddr]
  unfold nt
  go_simp
/-- A notice put into a box. -/
def W3 (W : World) (B : Nat) (o t k : Int) : World := ((W.setCell ⟨B, 0, none⟩ (.int .i64 o)).setCell ⟨B, 1, none⟩ (.int .i64 t)).setCell ⟨B, 2, none⟩ (.int .i64 k)

theorem rk_ok {t k : Int} : rk t k ≠ -1 ↔ 0 ≤ t ∧ t ≤ 1048576 ∧ (k = 1 ∨ k = 2) := by
  unfold rk
  by_cases h : t < 0 ∨ 1048576 < t
  · rw [if_pos h]; omega
  · rw [if_neg h]
    by_cases k1 : k = 1
    · rw [if_pos k1]; omega
    · rw [if_neg k1]
      by_cases k2 : k = 2
      · rw [if_pos k2]; omega
      · rw [if_neg k2]; omega
/-- Beats the first one? -/
def bt (o t k o' t' k' : Int) : Bool := decide (o = o' ∧ rk t k ≠ -1 ∧ rk t' k' ≠ -1 ∧ rk t' k' < rk t k)
set_option maxHeartbeats 400000 in
theorem fresh_any (o : Int) (w : World) : Calls Tryz.prog 117 #[.int .i64 o] w fun e w' => e = .returned (nt o 0 1) ∧ Below w.heap.size w w' := by
  go_enter Tryz.func117, Tryz.ntmps117
  go_wp2
  exact retN rfl rfl rfl (new_at rfl) ⟨rfl, (Below.refl _ w).alloc (Nat.le_refl _) _⟩
/-- Is it a notice of one of n nodes? -/
def vl (n o t k : Int) : Bool := decide (1 ≤ n ∧ n ≤ 100 ∧ 0 ≤ o ∧ o < n ∧ rk t k ≠ -1)
set_option maxHeartbeats 1000000 in
theorem valid_any (n o t k : Int) (w : World) : Calls Tryz.prog 265 #[.int .i64 n, nt o t k] w fun e w' => e = .returned (.bool (vl n o t k)) ∧ Below w.heap.size w w' := by
  have hr1 := rank_any o t k
  unfold vl
  unfold nt at *
  generalize rk t k = r at *
  by_cases h1 : 1 ≤ n ∧ n ≤ 100 ∧ 0 ≤ o ∧ o < n
  · obtain ⟨a1, a2, a3, a4⟩ := h1
    go_enter Tryz.func265, Tryz.ntmps265
    go_wp2_with (go_at_call 297; (with_reducible refine (hr1 _).mono ?_); rintro e u1 ⟨rfl, hb1⟩)
    go_ret
    exact ⟨by by_cases h2 : r = -1 <;> simp [*], bel2 ((Below.refl _ w).alloc (by simp) _) hb1⟩
  · have hv : decide (1 ≤ n ∧ n ≤ 100 ∧ 0 ≤ o ∧ o < n ∧ r ≠ -1) = false := decide_eq_false (fun ⟨a, b, c, d, _⟩ => h1 ⟨a, b, c, d⟩)
    rw [hv]
    have h2 : n < 1 ∨ (1 ≤ n ∧ 100 < n) ∨ (1 ≤ n ∧ n ≤ 100 ∧ o < 0) ∨ (1 ≤ n ∧ n ≤ 100 ∧ 0 ≤ o ∧ n ≤ o) := by omega
    clear hv h1
    rcases h2 with h | ⟨h, h'⟩ | ⟨h, h', h''⟩ | ⟨h, h', h'', h3⟩
    all_goals
      go_enter Tryz.func265, Tryz.ntmps265
      go_wp2
      go_ret
      exact ⟨rfl, (Below.refl _ w).alloc (by simp) _⟩
end Go.Proofs.YtklnfbanfgdgcaaGreatDoor
namespace Go.Proofs.YtklnfbanfgdgcaaGreatDoor
abbrev N3 := Int × Int × Int
def rkx (x : N3) : Int := rk x.2.1 x.2.2
/-- A book's list: of each node a notice that has a rank. -/
def Bok (l : List N3) : Prop := ∀ (i : Nat) (x : N3), l[i]? = some x → x.1 = (i : Int) ∧ rkx x ≠ -1
/-- The fresh ones; a new book. -/
def frs (n : Nat) : List N3 := (List.range n).map fun (i : Nat) => ((i : Int), 0, 1)
def bk0 (n s : Nat) (tag : Int) : List N3 := (frs n).set s ((s : Int), tag, 1)
theorem frs_len (n : Nat) : (frs n).length = n := by simp [frs]
theorem frs_get {n i : Nat} (h : i < n) : (frs n)[i]? = some ((i : Int), 0, 1) := by simp [frs, h]
theorem bk0_len (n s : Nat) (tag : Int) : (bk0 n s tag).length = n := by simp [bk0, frs_len]
theorem bk0_get {n s i : Nat} (tag : Int) (h : i < n) : (bk0 n s tag)[i]? = some (if i = s then ((s : Int), tag, 1) else ((i : Int), 0, 1)) := by
  unfold bk0
  rw [List.getElem?_set, frs_len, frs_get h]
  by_cases e : s = i
  · subst e; simp [h]
  · rw [if_neg e, if_neg (fun q => e q.symm)]
theorem bk0_bok {n s : Nat} {tag : Int} (h0 : 0 ≤ tag) (h1 : tag ≤ 1048576) : Bok (bk0 n s tag) := by
  intro i x hx
  have hi : i < n := by have := (List.getElem?_eq_some_iff.1 hx).1; rwa [bk0_len] at this
  rw [bk0_get tag hi] at hx
  obtain rfl := Option.some.inj hx
  by_cases e : i = s
  · subst e
    rw [if_pos rfl]
    exact ⟨rfl, rk_ok.2 ⟨h0, h1, .inl rfl⟩⟩
  · rw [if_neg e]
    exact ⟨rfl, rk_ok.2 ⟨Int.le_refl _, (by decide : (0 : Int) ≤ 1048576), .inl rfl⟩⟩
end Go.Proofs.YtklnfbanfgdgcaaGreatDoor
