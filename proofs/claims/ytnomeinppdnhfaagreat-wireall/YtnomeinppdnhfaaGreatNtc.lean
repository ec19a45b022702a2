/- notice.Rank, and the document's: what they answer, at every notice. -/
import Derived.Test.YtnomeinppdnhfaaGreatProg
import Derived.Test.YtnomeinppdnhfaaGreatBxs
import Derived.Test.YtnomeinppdnhfaaGreatRgs
import Derived.Shelf.Abstract
import Derived.Shelf.RegionOpen
import Derived.WalkKit
import Derived.WalkSpells
import Derived.OwnWalkIn
import Derived.TacticsInMore
import Derived.LoopNIn
import Derived.LoopIn
import Derived.Lib.OthersKept
import Derived.Deep.Light
namespace Go.Proofs.YtnomeinppdnhfaaGreat
open Go.RowKit Go.Shelf

/-- A notice's value. -/
def nt (o t k : Int) : Value := .agg #[.int .i64 o, .int .i64 t, .int .i64 k]
/-- Its rank. -/
def rk (t k : Int) : Int := if t < 0 ∨ 1048576 < t then -1 else if k = 1 then 2 * t else if k = 2 then 2 * t + 1 else -1
theorem rk_lo {t k : Int} (h : t < 0 ∨ 1048576 < t) : rk t k = -1 := if_pos h
theorem rk_m {t : Int} (h : ¬ (t < 0 ∨ 1048576 < t)) : rk t 1 = 2 * t := by rw [rk, if_neg h, if_pos rfl]
theorem rk_s {t : Int} (h : ¬ (t < 0 ∨ 1048576 < t)) : rk t 2 = 2 * t + 1 := by rw [rk, if_neg h, if_neg (by decide), if_pos rfl]
theorem rk_n {t k : Int} (h1 : ¬ k = 1) (h2 : ¬ k = 2) : rk t k = -1 := by rw [rk, if_neg h1, if_neg h2]; split <;> rfl

set_option maxHeartbeats 1000000 in
theorem rank_any (o t k : Int) (w : World) : Calls Tryz.prog 121 #[nt o t k] w fun e w' => e = .returned (.int .i64 (rk t k)) ∧ Below w.heap.size w w' := by
  unfold nt
  by_cases h : t < 0 ∨ 1048576 < t
  · rw [rk_lo h]
    rcases h with h | h
    all_goals
      go_enter Tryz.func121, Tryz.ntmps121
      go_wp2
      go_ret
      exact ⟨rfl, (Below.refl _ w).alloc (Nat.le_refl _) _⟩
  · have h0 : ¬ t < 0 := by omega
    have h1 : ¬ 1048576 < t := by omega
    by_cases k1 : k = 1
    · subst k1
      rw [rk_m h]
      go_enter Tryz.func121, Tryz.ntmps121
      go_wp2
      go_ret
      exact ⟨rfl, (Below.refl _ w).alloc (Nat.le_refl _) _⟩
    · by_cases k2 : k = 2
      · subst k2
        rw [rk_s h]
        go_enter Tryz.func121, Tryz.ntmps121
        go_wp2
        go_ret
        exact ⟨rfl, (Below.refl _ w).alloc (Nat.le_refl _) _⟩
      · rw [rk_n k1 k2]
        go_enter Tryz.func121, Tryz.ntmps121
        go_wp2
        go_ret
        exact ⟨rfl, (Below.refl _ w).alloc (Nat.le_refl _) _⟩

theorem bel2 {w u v : World} (h1 : Below w.heap.size w u) (h2 : Below u.heap.size u v) : Below w.heap.size w v := h1.trans (h2.mono h1.size)
theorem al1 (w : World) (a : Obj) : Below w.heap.size w (w.alloc a) := (Below.refl _ w).alloc (Nat.le_refl _) _
theorem al2 (w : World) (a b : Obj) : Below w.heap.size w ((w.alloc a).alloc b) := (al1 w a).alloc (al1 w a).size _
theorem al3 (w : World) (a b c : Obj) : Below w.heap.size w (((w.alloc a).alloc b).alloc c) := (al2 w a b).alloc (al2 w a b).size _
/-- A box that holds a notice. -/
def NB (W : World) (B : Nat) (o t k : Int) : Prop := W.heap[B]? = some (.cells #[.int .i64 o, .int .i64 t, .int .i64 k] 80 (0, 0))
theorem NB.carry {W W' : World} {B : Nat} {o t k : Int} (h : NB W B o t k) (hb : Below W.heap.size W W') : NB W' B o t k := (hb.block _ (lt_at h)).trans h
theorem NB.old {W : World} {B : Nat} {o t k : Int} (h : NB W B o t k) (ob : Obj) : NB (W.alloc ob) B o t k := old_at h
theorem NB.new (W : World) (o t k : Int) : NB (W.alloc (.cells #[.int .i64 o, .int .i64 t, .int .i64 k] 80)) W.heap.size o t k := new_at rfl
theorem NB.c0 {W : World} {B : Nat} {o t k : Int} (h : NB W B o t k) : W.cell? ⟨B, 0, none⟩ = some (.int .i64 o) := cell_at h 0
theorem NB.c1 {W : World} {B : Nat} {o t k : Int} (h : NB W B o t k) : W.cell? ⟨B, 1, none⟩ = some (.int .i64 t) := cell_at h 1
theorem NB.c2 {W : World} {B : Nat} {o t k : Int} (h : NB W B o t k) : W.cell? ⟨B, 2, none⟩ = some (.int .i64 k) := cell_at h 2
theorem NB.lt {W : World} {B : Nat} {o t k : Int} (h : NB W B o t k) : B < W.heap.size := lt_at h
theorem load_nt {W : World} {B : Nat} {o t k : Int} (h : NB W B o t k) : (Instr.loadAt 80 (.pointer (some ⟨B, 0, none⟩))).run Tryz.prog W = .ok (nt o t k) W := by
  have c0 := cell_at h 0
  have c1 := cell_at h 1
  have c2 := cell_at h 2
  unfold nt
  go_simp
theorem load_n0 {W : World} {B : Nat} {o t k : Int} (h : NB W B o t k) : (Instr.loadAt 3 (.pointer (some ⟨B, 0, none⟩))).run Tryz.prog W = .ok (.int .i64 o) W := by
  have c0 := cell_at h 0
  go_simp
theorem load_n1 {W : World} {B : Nat} {o t k : Int} (h : NB W B o t k) : (Instr.loadAt 3 (.pointer (some ⟨B, 1, none⟩))).run Tryz.prog W = .ok (.int .i64 t) W := by
  have c0 := cell_at h 1
  go_simp
theorem load_n2 {W : World} {B : Nat} {o t k : Int} (h : NB W B o t k) : (Instr.loadAt 3 (.pointer (some ⟨B, 2, none⟩))).run Tryz.prog W = .ok (.int .i64 k) W := by
  have c0 := cell_at h 2
  go_simp
theorem field_n0 (W : World) (B : Nat) : (Instr.fieldAt 80 (.pointer (some ⟨B, 0, none⟩)) 0).run Tryz.prog W = .ok (.pointer (some ⟨B, 0, none⟩)) W := by go_simp
theorem field_n1 (W : World) (B : Nat) : (Instr.fieldAt 80 (.pointer (some ⟨B, 0, none⟩)) 1).run Tryz.prog W = .ok (.pointer (some ⟨B, 1, none⟩)) W := by go_simp
theorem field_n2 (W : World) (B : Nat) : (Instr.fieldAt 80 (.pointer (some ⟨B, 0, none⟩)) 2).run Tryz.prog W = .ok (.pointer (some ⟨B, 2, none⟩)) W := by go_simp
/-- Boxes of notices, and all that was there stays. -/
structure JL (w : World) (L : List (Nat × Int × Int × Int)) (W : World) : Prop where
  all : ∀ x ∈ L, NB W x.1 x.2.1 x.2.2.1 x.2.2.2
  below : Below w.heap.size w W
theorem JL.get {w W : World} {L : List (Nat × Int × Int × Int)} (h : JL w L W) (i : Nat) {B : Nat} {o t k : Int} (hx : L[i]? = some (B, o, t, k)) : NB W B o t k := h.all _ (List.mem_of_getElem? hx)
theorem JL.carry {w W W' : World} {L : List (Nat × Int × Int × Int)} (h : JL w L W) (hb : Below W.heap.size W W') : JL w L W' := ⟨fun x hx => (h.all x hx).carry hb, bel2 h.below hb⟩
theorem JL.old {w W : World} {L : List (Nat × Int × Int × Int)} (h : JL w L W) (ob : Obj) : JL w L (W.alloc ob) := ⟨fun x hx => (h.all x hx).old ob, h.below.alloc h.below.size ob⟩
theorem JL.nil (w : World) : JL w [] w := ⟨by simp, Below.refl _ _⟩
theorem JL.new {w W : World} {L : List (Nat × Int × Int × Int)} (h : JL w L W) (o t k : Int) : JL w (L ++ [(W.heap.size, o, t, k)]) (W.alloc (.cells #[.int .i64 o, .int .i64 t, .int .i64 k] 80)) := by
  refine ⟨fun x hx => ?_, h.below.alloc h.below.size _⟩
  rcases List.mem_append.1 hx with hx | hx
  · exact (h.all x hx).old _
  · obtain rfl := List.mem_singleton.1 hx
    exact NB.new W o t k
theorem bin_eqn {x y : Operand} {w : World} (o t k o' t' k' : Int) : binRun Tryz.prog .eql 80 x y (nt o t k) (nt o' t' k') w = .ok (.bool (decide (o = o' ∧ t = t' ∧ k = k'))) w := by
  unfold binRun nt
  by_cases h : o = o'
  · by_cases h1 : t = t'
    · by_cases h2 : k = k' <;> go_simp
    · go_simp
  · go_simp
end Go.Proofs.YtnomeinppdnhfaaGreat
