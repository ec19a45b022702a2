/- What lies in a world behind an allocation. -/
import Derived.WalkKit
import Derived.WalkSpells
import Derived.Below
import Derived.Shelf.Abstract
import Derived.Lib.OthersKept
import Derived.Maps.AppendAt
import Derived.OwnWalk
import Derived.Carry
import Derived.Deep.WholeRow
import Derived.Test.YtnkpohkodkjkfaaGreatDoorProg
import Derived.Test.YtnkpohkodkjkfaaGreatDoorJpJ9
import Derived.Shelf.RegionOpen
import Derived.OwnWalkIn
import Derived.TacticsInMore
import Derived.LoopNIn
import Derived.LoopIn
import Derived.Deep.Light
import Derived.Laws.ResultCell
import Derived.Laws.Rows
set_option maxHeartbeats 40000000
set_option maxRecDepth 100000
set_option linter.unusedVariables false
namespace Go.Proofs.YtnkpohkodkjkfaaGreatDoor
open Go.RowKit
theorem new_at {w : World} {o : Obj} {k : Nat} (h : k = w.heap.size) : (w.alloc o).heap[k]? = some o := by subst h; exact heap_alloc_last w o
theorem old_at {w : World} {o o' : Obj} {k : Nat} (h : w.heap[k]? = some o') : (w.alloc o).heap[k]? = some o' := (Below.heap_alloc w o k (Array.getElem?_eq_some_iff.1 h).1).trans h
theorem cell_at {W : World} {B : Nat} {cs : Array Value} {t : TypeId} {z : Nat × Nat} (h : W.heap[B]? = some (.cells cs t z)) (j : Nat) : W.cell? ⟨B, j, none⟩ = cs[j]? := by simp [World.cell?, h]
theorem thaw_at {W : World} {B : Nat} {cs : Array Value} {t : TypeId} (h : W.heap[B]? = some (.cells cs t (0, 0))) (j : Nat) : W.frozen? ⟨B, j, none⟩ = false := by simp [World.frozen?, h]
theorem lt_at {W : World} {B : Nat} {o : Obj} (h : W.heap[B]? = some o) : B < W.heap.size := (Array.getElem?_eq_some_iff.1 h).1
end Go.Proofs.YtnkpohkodkjkfaaGreatDoor
namespace Go.Proofs.YtnkpohkodkjkfaaGreatDoor
open Go.RowKit Go.Shelf

/-- A notice's value. -/
def nt (o t k : Int) : Value := .agg #[.int .i64 o, .int .i64 t, .int .i64 k]
/-- Its rank. -/
def rk (t k : Int) : Int := if t < 0 ∨ 1048576 < t then -1 else if k = 1 then 2 * t else if k = 2 then 2 * t + 1 else -1
theorem rk_lo {t k : Int} (h : t < 0 ∨ 1048576 < t) : rk t k = -1 := if_pos h
theorem rk_m {t : Int} (h : ¬ (t < 0 ∨ 1048576 < t)) : rk t 1 = 2 * t := by rw [rk, if_neg h, if_pos rfl]
theorem rk_s {t : Int} (h : ¬ (t < 0 ∨ 1048576 < t)) : rk t 2 = 2 * t + 1 := by rw [rk, if_neg h, if_neg (by decide), if_pos rfl]
theorem rk_n {t k : Int} (h1 : ¬ k = 1) (h2 : ¬ k = 2) : rk t k = -1 := by rw [rk, if_neg h1, if_neg h2]; split <;> rfl

set_option maxHeartbeats 1000000 in
theorem rank_any (o t k : Int) (w : World) : Calls Tryz.prog 137 #[nt o t k] w fun e w' => e = .returned (.int .i64 (rk t k)) ∧ Below w.heap.size w w' := by
  unfold nt
  by_cases h : t < 0 ∨ 1048576 < t
  · rw [rk_lo h]
    rcases h with h | h
    all_goals
      go_enter Tryz.func137, Tryz.ntmps137
      go_wp2
      go_ret
      exact ⟨rfl, (Below.refl _ w).alloc (Nat.le_refl _) _⟩
  · have h0 : ¬ t < 0 := by omega
    have h1 : ¬ 1048576 < t := by omega
    by_cases k1 : k = 1
    · subst k1
      rw [rk_m h]
      go_enter Tryz.func137, Tryz.ntmps137
      go_wp2
      go_ret
      exact ⟨rfl, (Below.refl _ w).alloc (Nat.le_refl _) _⟩
    · by_cases k2 : k = 2
      · subst k2
        rw [rk_s h]
        go_enter Tryz.func137, Tryz.ntmps137
        go_wp2
        go_ret
        exact ⟨rfl, (Below.refl _ w).alloc (Nat.le_refl _) _⟩
      · rw [rk_n k1 k2]
        go_enter Tryz.func137, Tryz.ntmps137
        go_wp2
        go_ret
        exact ⟨rfl, (Below.refl _ w).alloc (Nat.le_refl _) _⟩

theorem bel2 {w u v : World} (h1 : Below w.heap.size w u) (h2 : Below u.heap.size u v) : Below w.heap.size w v := h1.trans (h2.mono h1.size)
theorem al1 (w : World) (a : Obj) : Below w.heap.size w (w.alloc a) := (Below.refl _ w).alloc (Nat.le_refl _) _
theorem al2 (w : World) (a b : Obj) : Below w.heap.size w ((w.alloc a).alloc b) := (al1 w a).alloc (al1 w a).size _
/-- A box that holds a notice. -/
def NB (W : World) (B : Nat) (o t k : Int) : Prop := W.heap[B]? = some (.cells #[.int .i64 o, .int .i64 t, .int .i64 k] 99 (0, 0))
theorem NB.carry {W W' : World} {B : Nat} {o t k : Int} (h : NB W B o t k) (hb : Below W.heap.size W W') : NB W' B o t k := (hb.block _ (lt_at h)).trans h
theorem NB.old {W : World} {B : Nat} {o t k : Int} (h : NB W B o t k) (ob : Obj) : NB (W.alloc ob) B o t k := old_at h
theorem NB.new (W : World) (o t k : Int) : NB (W.alloc (.cells #[.int .i64 o, .int .i64 t, .int .i64 k] 99)) W.heap.size o t k := new_at rfl
theorem NB.c0 {W : World} {B : Nat} {o t k : Int} (h : NB W B o t k) : W.cell? ⟨B, 0, none⟩ = some (.int .i64 o) := cell_at h 0
theorem NB.c1 {W : World} {B : Nat} {o t k : Int} (h : NB W B o t k) : W.cell? ⟨B, 1, none⟩ = some (.int .i64 t) := cell_at h 1
theorem NB.c2 {W : World} {B : Nat} {o t k : Int} (h : NB W B o t k) : W.cell? ⟨B, 2, none⟩ = some (.int .i64 k) := cell_at h 2
theorem NB.lt {W : World} {B : Nat} {o t k : Int} (h : NB W B o t k) : B < W.heap.size := lt_at h
theorem load_nt {W : World} {B : Nat} {o t k : Int} (h : NB W B o t k) : (Instr.loadAt 99 (.pointer (some ⟨B, 0, none⟩))).run Tryz.prog W = .ok (nt o t k) W := by
  have c0 := cell_at h 0
  have c1 := cell_at h 1
  have c2 := cell_at h 2
  unfold nt
  go_simp
theorem load_n0 {W : World} {B : Nat} {o t k : Int} (h : NB W B o t k) : (Instr.loadAt 3 (.pointer (some ⟨B, 0, none⟩))).run Tryz.prog W = .ok (.int .i64 o) W := by
  have c0 := cell_at h 0
  go_simp
theorem load_n1 {W : World} {B : Nat} {o t k : Int} (h : NB W B o t k) : (Instr.loadAt 3 (.pointer (some ⟨B, 1, none⟩))).run Tryz.prog W = .ok (.int .i64 t) W := by
  have c0 := cell_at h 1
  go_simp
theorem load_n2 {W : World} {B : Nat} {o t k : Int} (h : NB W B o t k) : (Instr.loadAt 3 (.pointer (some ⟨B, 2, none⟩))).run Tryz.prog W = .ok (.int .i64 k) W := by
  have c0 := cell_at h 2
  go_simp
theorem field_n0 (W : World) (B : Nat) : (Instr.fieldAt 99 (.pointer (some ⟨B, 0, none⟩)) 0).run Tryz.prog W = .ok (.pointer (some ⟨B, 0, none⟩)) W := by go_simp
theorem field_n1 (W : World) (B : Nat) : (Instr.fieldAt 99 (.pointer (some ⟨B, 0, none⟩)) 1).run Tryz.prog W = .ok (.pointer (some ⟨B, 1, none⟩)) W := by go_simp
theorem field_n2 (W : World) (B : Nat) : (Instr.fieldAt 99 (.pointer (some ⟨B, 0, none⟩)) 2).run Tryz.prog W = .ok (.pointer (some ⟨B, 2, none⟩)) W := by go_simp
/-- Boxes of notices, and all that was there stays. -/
structure JL (w : World) (L : List (Nat × Int × Int × Int)) (W : World) : Prop where
  all : ∀ x ∈ L, NB W x.1 x.2.1 x.2.2.1 x.2.2.2
  below : Below w.heap.size w W
theorem JL.get {w W : World} {L : List (Nat × Int × Int × Int)} (h : JL w L W) (i : Nat) {B : Nat} {o t k : Int} (hx : L[i]? = some (B, o, t, k)) : NB W B o t k := h.all _ (List.mem_of_getElem? hx)
theorem JL.carry {w W W' : World} {L : List (Nat × Int × Int × Int)} (h : JL w L W) (hb : Below W.heap.size W W') : JL w L W' := ⟨fun x hx => (h.all x hx).carry hb, bel2 h.below hb⟩
theorem JL.old {w W : World} {L : List (Nat × Int × Int × Int)} (h : JL w L W) (ob : Obj) : JL w L (W.alloc ob) := ⟨fun x hx => (h.all x hx).old ob, h.below.alloc h.below.size ob⟩
theorem JL.nil (w : World) : JL w [] w := ⟨by simp, Below.refl _ _⟩
theorem JL.new {w W : World} {L : List (Nat × Int × Int × Int)} (h : JL w L W) (o t k : Int) : JL w (L ++ [(W.heap.size, o, t, k)]) (W.alloc (.cells #[.int .i64 o, .int .i64 t, .int .i64 k] 99)) := by
  refine ⟨fun x hx => ?_, h.below.alloc h.below.size _⟩
  rcases List.mem_append.1 hx with hx | hx
  · exact (h.all x hx).old _
  · obtain rfl := List.mem_singleton.1 hx
    exact NB.new W o t k
theorem bin_eqn {x y : Operand} {w : World} (o t k o' t' k' : Int) : binRun Tryz.prog .eql 99 x y (nt o t k) (nt o' t' k') w = .ok (.bool (decide (o = o' ∧ t = t' ∧ k = k'))) w := by
  unfold binRun nt
  by_cases h : o = o'
  · by_cases h1 : t = t'
    · by_cases h2 : k = k' <;> go_simp
    · go_simp
  · go_simp
theorem retN {f : Func} {p : Tmp} {R : Ending → World → Prop} {a : Act} {w : World} {b : Nat} {o t k : Int} (hres : f.results = #[.cell p 99]) (hp : a.tmps.getD p undef = .pointer (some ⟨b, 0, none⟩)) (hd : a.defers = []) (h : NB w b o t k) (hR : R (.returned (nt o t k)) w) : bodyPost Tryz.prog f R .ret a w := by
  refine bodyPost_ret (v := nt o t k) ?_ hd hR
  have hp' : a.tmps[p]?.getD undef = .pointer (some ⟨b, 0, none⟩) := by simpa using hp
  have c0 := h.c0
  have c1 := h.c1
  have c2 := h.c2
  simp [results, hres, hp', asAddr]
  unfold nt
  go_simp
theorem retNt {f : Func} {p q : Tmp} {R : Ending → World → Prop} {a : Act} {w : World} {b : Nat} {o t k : Int} {x : Value} (hres : f.results = #[.cell p 99, .tmp q]) (hp : a.tmps.getD p undef = .pointer (some ⟨b, 0, none⟩)) (hq : a.tmps.getD q undef = x) (hd : a.defers = []) (h : NB w b o t k) (hR : R (.returned (.tuple #[nt o t k, x])) w) : bodyPost Tryz.prog f R .ret a w := by
  refine bodyPost_ret (v := .tuple #[nt o t k, x]) ?_ hd hR
  have hp' : a.tmps[p]?.getD undef = .pointer (some ⟨b, 0, none⟩) := by simpa using hp
  have hq' : a.tmps[q]?.getD undef = x := by simpa using hq
  have c0 := h.c0
  have c1 := h.c1
  have c2 := h.c2
  simp [results, hres, hp', hq', asAddr]
  unfold nt
  go_simp
/-- A notice put into a box. -/
def W3 (W : World) (B : Nat) (o t k : Int) : World := ((W.setCell ⟨B, 0, none⟩ (.int .i64 o)).setCell ⟨B, 1, none⟩ (.int .i64 t)).setCell ⟨B, 2, none⟩ (.int .i64 k)
theorem NB.thaw {W : World} {B : Nat} {o t k : Int} (h : NB W B o t k) (j : Nat) : W.frozen? ⟨B, j, none⟩ = false := thaw_at h j
theorem NB.set {W : World} {B : Nat} {o t k : Int} (h : NB W B o t k) (a b c : Int) : NB (W3 W B a b c) B a b c := by
  unfold NB W3
  have h0 := heap_setCell_same _ _ 0 _ _ (.int .i64 a) h
  have h1 := heap_setCell_same _ _ 1 _ _ (.int .i64 b) h0
  have h2 := heap_setCell_same _ _ 2 _ _ (.int .i64 c) h1
  simpa using h2
theorem below3 {w0 w : World} {n B : Nat} (hb : Below n w0 w) (hB : n ≤ B) (a b c : Int) : Below n w0 (W3 w B a b c) := ((hb.setCell hB _).setCell hB _).setCell hB _
theorem other3 {w : World} {B k : Nat} (h : k ≠ B) (a b c : Int) : (W3 w B a b c).heap[k]? = w.heap[k]? := by
  unfold W3
  rw [Below.heap_setCell _ _ _ _ h, Below.heap_setCell _ _ _ _ h, Below.heap_setCell _ _ _ _ h]
end Go.Proofs.YtnkpohkodkjkfaaGreatDoor
