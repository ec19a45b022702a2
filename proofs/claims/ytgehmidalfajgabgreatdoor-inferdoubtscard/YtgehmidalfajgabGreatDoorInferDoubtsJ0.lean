/- notice.Rank, and the document's: what they answer, at every notice. -/
import Derived.Test.YtgehmidalfajgabGreatDoorYwa
import Derived.Test.YtgehmidalfajgabGreatDoorProg
import Derived.Test.YtgehmidalfajgabGreatDoorBxs
import Derived.Test.YtgehmidalfajgabGreatDoorRgs
import Derived.Shelf.Abstract
import Derived.Shelf.RegionOpen
import Derived.WalkKit
import Derived.WalkSpells
import Derived.OwnWalkIn
import Derived.TacticsInMore
import Derived.LoopNIn
import Derived.LoopIn
import Derived.Lib.OthersKept
import Derived.Deep.Light
import Derived.Laws.ResultCell
import Derived.Laws.Rows
import Derived.Test.YtgehmidalfajgabGreatDoorBin
import Derived.Test.YtgehmidalfajgabGreatDoorRgf
namespace Go.Proofs.YtgehmidalfajgabGreatDoor
open Go.RowKit Go.Shelf

/-- A notice's value. -/
def nt (o t k : Int) : Value := .agg #[.int .i64 o, .int .i64 t, .int .i64 k]
/-- Its rank. -/
def rk (t k : Int) : Int := if t < 0 ∨ 1048576 < t then -1 else if k = 1 then 2 * t else if k = 2 then 2 * t + 1 else -1
theorem rk_lo {t k : Int} (h : t < 0 ∨ 1048576 < t) : rk t k = -1 := if_pos h
theorem rk_m {t : Int} (h : ¬ (t < 0 ∨ 1048576 < t)) : rk t 1 = 2 * t := by rw [rk, if_neg h, if_pos rfl]
theorem rk_s {t : Int} (h : ¬ (t < 0 ∨ 1048576 < t)) : rk t 2 = 2 * t + 1 := by rw [rk, if_neg h, if_neg (by decide), if_pos rfl]
theorem rk_n {t k : Int} (h1 : ¬ k = 1) (h2 : ¬ k = 2) : rk t k = -1 := by rw [rk, if_neg h1, if_neg h2]; split <;> rfl

set_option maxHeartbeats 1000000 in
theorem rank_any (o t k : Int) (w : World) : Calls Tryz.prog 94 #[nt o t k] w fun e w' => e = .returned (.int .i64 (rk t k)) ∧ Below w.heap.size w w' := by
  unfold nt
  by_cases h : t < 0 ∨ 1048576 < t
  · rw [rk_lo h]
    rcases h with h | h
    all_goals
      go_enter Tryz.func94, Tryz.ntmps94
      go_wp2
      go_ret
      exact ⟨rfl, (Below.refl _ w).alloc (Nat.le_refl _) _⟩
  · have h0 : ¬ t < 0 := by omega
    have h1 : ¬ 1048576 < t := by omega
    by_cases k1 : k = 1
    · subst k1
      rw [rk_m h]
      go_enter Tryz.func94, Tryz.ntmps94
      go_wp2
      go_ret
      exact ⟨rfl, (Below.refl _ w).alloc (Nat.le_refl _) _⟩
    · by_cases k2 : k = 2
      · subst k2
        rw [rk_s h]
        go_enter Tryz.func94, Tryz.ntmps94
        go_wp2
        go_ret
        exact ⟨rfl, (Below.refl _ w).alloc (Nat.le_refl _) _⟩
      · rw [rk_n k1 k2]
        go_enter Tryz.func94, Tryz.ntmps94
        go_wp2
        go_ret
        exact ⟨rfl, (Below.refl _ w).alloc (Nat.le_refl _) _⟩

theorem al1 (w : World) (a : Obj) : Below w.heap.size w (w.alloc a) := (Below.refl _ w).alloc (Nat.le_refl _) _
theorem al2 (w : World) (a b : Obj) : Below w.heap.size w ((w.alloc a).alloc b) := (al1 w a).alloc (al1 w a).size _
theorem al3 (w : World) (a b c : Obj) : Below w.heap.size w (((w.alloc a).alloc b).alloc c) := (al2 w a b).alloc (al2 w a b).size _
/-- A box that holds a notice. -/
def NB (W : World) (B : Nat) (o t k : Int) : Prop := W.heap[B]? = some (.cells #[.int .i64 o, .int .i64 t, .int .i64 k] 70 (0, 0))
theorem NB.carry {W W' : World} {B : Nat} {o t k : Int} (h : NB W B o t k) (hb : Below W.heap.size W W') : NB W' B o t k := (hb.block _ (lt_at h)).trans h
theorem NB.old {W : World} {B : Nat} {o t k : Int} (h : NB W B o t k) (ob : Obj) : NB (W.alloc ob) B o t k := old_at h
theorem NB.new (W : World) (o t k : Int) : NB (W.alloc (.cells #[.int .i64 o, .int .i64 t, .int .i64 k] 70)) W.heap.size o t k := new_at rfl
theorem NB.c0 {W : World} {B : Nat} {o t k : Int} (h : NB W B o t k) : W.cell? ⟨B, 0, none⟩ = some (.int .i64 o) := cell_at h 0
theorem NB.c1 {W : World} {B : Nat} {o t k : Int} (h : NB W B o t k) : W.cell? ⟨B, 1, none⟩ = some (.int .i64 t) := cell_at h 1
theorem NB.c2 {W : World} {B : Nat} {o t k : Int} (h : NB W B o t k) : W.cell? ⟨B, 2, none⟩ = some (.int .i64 k) := cell_at h 2
theorem NB.lt {W : World} {B : Nat} {o t k : Int} (h : NB W B o t k) : B < W.heap.size := lt_at h
theorem load_nt {W : World} {B : Nat} {o t k : Int} (h : NB W B o t k) : (Instr.loadAt 70 (.pointer (some ⟨B, 0, none⟩))).run Tryz.prog W = .ok (nt o t k) W := by
  have c0 := cell_at h 0
  have c1 := cell_at h 1
  have c2 := cell_at h 2
  unfold nt
  go_simp
theorem load_n0 {W : World} {B : Nat} {o t k : Int} (h : NB W B o t k) : (Instr.loadAt 3 (.pointer (some ⟨B, 0, none⟩))).run Tryz.prog W = .ok (.int .i64 o) W := by
  have c0 := cell_at h 0
  go_simp
theorem load_n1 {W : World} {B : Nat} {o t k : Int} (h : NB W B o t k) : (Instr.loadAt 3 (.pointer (some ⟨B, 1, none⟩))).run Tryz.prog W = .ok (.int .i64 t) W := by
  have c0 := cell_at h 1
  go_simp
theorem load_n2 {W : World} {B : Nat} {o t k : Int} (h : NB W B o t k) : (Instr.loadAt 3 (.pointer (some ⟨B, 2, none⟩))).run Tryz.prog W = .ok (.int .i64 k) W := by
  have c0 := cell_at h 2
  go_simp
theorem field_n0 (W : World) (B : Nat) : (Instr.fieldAt 70 (.pointer (some ⟨B, 0, none⟩)) 0).run Tryz.prog W = .ok (.pointer (some ⟨B, 0, none⟩)) W := by go_simp
theorem field_n1 (W : World) (B : Nat) : (Instr.fieldAt 70 (.pointer (some ⟨B, 0, none⟩)) 1).run Tryz.prog W = .ok (.pointer (some ⟨B, 1, none⟩)) W := by go_simp
theorem field_n2 (W : World) (B : Nat) : (Instr.fieldAt 70 (.pointer (some ⟨B, 0, none⟩)) 2).run Tryz.prog W = .ok (.pointer (some ⟨B, 2, none⟩)) W := by go_simp
/-- Boxes of notices, and all that was there stays. -/
structure JL (w : World) (L : List (Nat × Int × Int × Int)) (W : World) : Prop where
  all : ∀ x ∈ L, NB W x.1 x.2.1 x.2.2.1 x.2.2.2
  below : Below w.heap.size w W
theorem JL.get {w W : World} {L : List (Nat × Int × Int × Int)} (h : JL w L W) (i : Nat) {B : Nat} {o t k : Int} (hx : L[i]? = some (B, o, t, k)) : NB W B o t k := h.all _ (List.mem_of_getElem? hx)
theorem JL.carry {w W W' : World} {L : List (Nat × Int × Int × Int)} (h : JL w L W) (hb : Below W.heap.size W W') : JL w L W' := ⟨fun x hx => (h.all x hx).carry hb, bel2 h.below hb⟩
theorem JL.old {w W : World} {L : List (Nat × Int × Int × Int)} (h : JL w L W) (ob : Obj) : JL w L (W.alloc ob) := ⟨fun x hx => (h.all x hx).old ob, h.below.alloc h.below.size ob⟩
theorem JL.nil (w : World) : JL w [] w := ⟨by simp, Below.refl _ _⟩
theorem JL.new {w W : World} {L : List (Nat × Int × Int × Int)} (h : JL w L W) (o t k : Int) : JL w (L ++ [(W.heap.size, o, t, k)]) (W.alloc (.cells #[.int .i64 o, .int .i64 t, .int .i64 k] 70)) := by
  refine ⟨fun x hx => ?_, h.below.alloc h.below.size _⟩
  rcases List.mem_append.1 hx with hx | hx
  · exact (h.all x hx).old _
  · obtain rfl := List.mem_singleton.1 hx
    exact NB.new W o t k
theorem bin_eqn {x y : Operand} {w : World} (o t k o' t' k' : Int) : binRun Tryz.prog .eql 70 x y (nt o t k) (nt o' t' k') w = .ok (.bool (decide (o = o' ∧ t = t' ∧ k = k'))) w := by
  unfold binRun nt
  by_cases h : o = o'
  · by_cases h1 : t = t'
    · by_cases h2 : k = k' <;> go_simp
    · go_simp
  · go_simp
end Go.Proofs.YtgehmidalfajgabGreatDoor
namespace Go.Proofs.YtgehmidalfajgabGreatDoor
open Go.RowKit Go.Shelf
theorem retN {f : Func} {p : Tmp} {R : Ending → World → Prop} {a : Act} {w : World} {b : Nat} {o t k : Int} (hres : f.results = #[.cell p 70]) (hp : a.tmps.getD p undef = .pointer (some ⟨b, 0, none⟩)) (hd : a.defers = []) (h : NB w b o t k) (hR : R (.returned (nt o t k)) w) : bodyPost Tryz.prog f R .ret a w := by
  refine bodyPost_ret (v := nt o t k) ?_ hd hR
  have hp' : a.tmps[p]?.getD undef = .pointer (some ⟨b, 0, none⟩) := by simpa using hp
  have c0 := h.c0
  have c1 := h.c1
  have c2 := h.c2
  simp [results, hres, hp', asAddr]
  unfold nt
  go_simp
theorem retNt {f : Func} {p q : Tmp} {R : Ending → World → Prop} {a : Act} {w : World} {b : Nat} {o t k : Int} {x : Value} (hres : f.results = #[.cell p 70, .tmp q]) (hp : a.tmps.getD p undef = .pointer (some ⟨b, 0, none⟩)) (hq : a.tmps.getD q undef = x) (hd : a.defers = []) (h : NB w b o t k) (hR : R (.returned (.tuple #[nt o t k, x])) w) : bodyPost Tryz.prog f R .ret a w := by
  refine bodyPost_ret (v := .tuple #[nt o t k, x]) ?_ hd hR
  have hp' : a.tmps[p]?.getD undef = .pointer (some ⟨b, 0, none⟩) := by simpa using hp
  have hq' : a.tmps[q]?.getD undef = x := by simpa using hq
  have c0 := h.c0
  have c1 := h.c1
  have c2 := h.c2
  simp [results, hres, hp', hq', asAddr]
  unfold nt
  go_simp
theorem NB.at {W : World} {B : Nat} (o t k : Int) (h : B = W.heap.size) : NB (W.alloc (.cells #[.int .i64 o, .int .i64 t, .int .i64 k] 70)) B o t k := new_at h
/-- A notice put into a box. -/
def W3 (W : World) (B : Nat) (o t k : Int) : World := ((W.setCell ⟨B, 0, none⟩ (.int .i64 o)).setCell ⟨B, 1, none⟩ (.int .i64 t)).setCell ⟨B, 2, none⟩ (.int .i64 k)
theorem NB.thaw {W : World} {B : Nat} {o t k : Int} (h : NB W B o t k) (j : Nat) : W.frozen? ⟨B, j, none⟩ = false := thaw_at h j
theorem NB.set {W : World} {B : Nat} {o t k : Int} (h : NB W B o t k) (a b c : Int) : NB (W3 W B a b c) B a b c := by
  unfold NB W3
  have h0 := heap_setCell_same _ _ 0 _ _ (.int .i64 a) h
  have h1 := heap_setCell_same _ _ 1 _ _ (.int .i64 b) h0
  have h2 := heap_setCell_same _ _ 2 _ _ (.int .i64 c) h1
  simpa using h2
theorem below3 {w0 w : World} {n B : Nat} (hb : Below n w0 w) (hB : n ≤ B) (a b c : Int) : Below n w0 (W3 w B a b c) := ((hb.setCell hB _).setCell hB _).setCell hB _
theorem other3 {w : World} {B k : Nat} (h : k ≠ B) (a b c : Int) : (W3 w B a b c).heap[k]? = w.heap[k]? := by
  unfold W3
  rw [Below.heap_setCell _ _ _ _ h, Below.heap_setCell _ _ _ _ h, Below.heap_setCell _ _ _ _ h]
theorem store_nt {W : World} {B : Nat} {o t k : Int} (h : NB W B o t k) (a b c : Int) : (Instr.storeAt 70 (.pointer (some ⟨B, 0, none⟩)) (nt a b c)).run Tryz.prog W = .ok () (W3 W B a b c) := by
  have c0 := h.c0
  have c1 := h.c1
  have c2 := h.c2
  have z0 := h.thaw 0
  have z1 := h.thaw 1
  have z2 := h.thaw 2
  unfold nt W3
  go_simp
end Go.Proofs.YtgehmidalfajgabGreatDoor
namespace Go.Proofs.YtgehmidalfajgabGreatDoor
open Go.RowKit Go.Shelf

theorem rk_ok {t k : Int} : rk t k ≠ -1 ↔ 0 ≤ t ∧ t ≤ 1048576 ∧ (k = 1 ∨ k = 2) := by
  unfold rk
  by_cases h : t < 0 ∨ 1048576 < t
  · rw [if_pos h]; omega
  · rw [if_neg h]
    by_cases k1 : k = 1
    · rw [if_pos k1]; omega
    · rw [if_neg k1]
      by_cases k2 : k = 2
      · rw [if_pos k2]; omega
      · rw [if_neg k2]; omega
theorem rk_neg {t k : Int} : rk t k = -1 ∨ 0 ≤ rk t k := by
  unfold rk
  by_cases h : t < 0 ∨ 1048576 < t
  · rw [if_pos h]; omega
  · rw [if_neg h]
    by_cases k1 : k = 1
    · rw [if_pos k1]; omega
    · rw [if_neg k1]
      by_cases k2 : k = 2
      · rw [if_pos k2]; omega
      · rw [if_neg k2]; omega
theorem rk_inj {t k t' k' : Int} (h : rk t k = rk t' k') (h1 : rk t k ≠ -1) : t = t' ∧ k = k' := by
  unfold rk at h h1
  repeat' split at h
  all_goals (try omega)
  all_goals (simp_all <;> omega)
/-- Have the two an order? -/
def rv (o t k o' t' k' : Int) : Bool := decide (o = o' ∧ rk t k ≠ -1 ∧ rk t' k' ≠ -1)
set_option maxHeartbeats 1000000 in
theorem rivals_any (o t k o' t' k' : Int) (w : World) : Calls Tryz.prog 140 #[nt o t k, nt o' t' k'] w fun e w' => e = .returned (.bool (rv o t k o' t' k')) ∧ Below w.heap.size w w' := by
  have hr1 := rank_any o t k
  have hr2 := rank_any o' t' k'
  unfold rv
  unfold nt at *
  generalize rk t k = r1 at *
  generalize rk t' k' = r2 at *
  by_cases h0 : o = o'
  · subst h0
    by_cases h1 : r1 = -1
    · go_enter Tryz.func140, Tryz.ntmps140
      go_wp2_with (go_at_call 94; (with_reducible refine (hr1 _).mono ?_); rintro e u1 ⟨rfl, hb1⟩)
      go_ret
      exact ⟨by simp [h1], bel2 (((Below.refl _ w).alloc (by simp) _).alloc (by simp) _) hb1⟩
    · go_enter Tryz.func140, Tryz.ntmps140
      go_wp2_with (go_at_call 94; first | ((with_reducible refine (hr1 _).mono ?_); rintro e u1 ⟨rfl, hb1⟩; have hn1 : NB u1 (w.heap.size + 1) o t' k' := NB.carry (by unfold NB; exact new_at (by simp)) hb1; have c0 := hn1.c0; have c1 := hn1.c1; have c2 := hn1.c2; have hl1 := hn1.lt) | ((with_reducible refine (hr2 _).mono ?_); rintro e u2 ⟨rfl, hb2⟩))
      go_ret
      exact ⟨by by_cases h2 : r2 = -1 <;> simp [h1, h2], bel2 (bel2 (((Below.refl _ w).alloc (by simp) _).alloc (by simp) _) hb1) hb2⟩
  · go_enter Tryz.func140, Tryz.ntmps140
    go_wp2
    go_ret
    exact ⟨by simp [h0], (((Below.refl _ w).alloc (by simp) _).alloc (by simp) _)⟩
/-- Beats the first one? -/
def bt (o t k o' t' k' : Int) : Bool := decide (o = o' ∧ rk t k ≠ -1 ∧ rk t' k' ≠ -1 ∧ rk t' k' < rk t k)
set_option maxHeartbeats 1000000 in
set_option maxRecDepth 100000 in
theorem beats_any (o t k o' t' k' : Int) (w : World) : Calls Tryz.prog 96 #[nt o t k, nt o' t' k'] w fun e w' => e = .returned (.bool (bt o t k o' t' k')) ∧ Below w.heap.size w w' := by
  have hmx : Tryz.prog.follows .mixedOrders = true := by kernel_rfl
  have hj0 : JL w [(w.heap.size, o, t, k), (w.heap.size + 1, o', t', k')] ((w.alloc (.cells #[.int .i64 o, .int .i64 t, .int .i64 k] 70)).alloc (.cells #[.int .i64 o', .int .i64 t', .int .i64 k'] 70)) := by
    have := ((JL.nil w).new o t k).new o' t' k'
    simpa using this
  cases h : rv o t k o' t' k' with
  | true =>
    have hb : bt o t k o' t' k' = decide (rk t' k' < rk t k) := by
      unfold rv at h
      unfold bt
      have := of_decide_eq_true h
      simp [this]
    rw [hb]
    have hri := rivals_any o t k o' t' k'
    rw [h] at hri
    go_enter Tryz.func96, Tryz.ntmps96
    unfold nt
    go_wp2
    rename_i Q0 K0 hK
    refine wp_region_any hmx ?_
    refine wpAny_pure (fun i__ => ([(nt o t k), (nt (o') (t') (k')), (.bool true), (.bool true), (nt o t k), (.int .i64 (rk t k)), (nt (o') (t') (k')), (.int .i64 (rk (t') (k'))), (.bool (decide (rk t' k' < rk t k))), (.bool (decide (rk t' k' < rk t k))), (.bool (decide (rk t' k' < rk t k)))] : List Value).getD i__ undef) (fun W => JL w [(w.heap.size, o, t, k), (w.heap.size + 1, o', t', k')] W) (by kernel_rfl) (hj0.carry (Below.refl _ _).drew) ?_ ?_
    · refine (stepsFrom_cons ?_ (stepsFrom_cons ?_ (stepsFrom_cons ?_ (stepsFrom_cons ?_ (stepsFrom_cons ?_ (stepsFrom_cons ?_ (stepsFrom_cons ?_ (stepsFrom_cons ?_ (stepsFrom_cons ?_ (stepsFrom_cons ?_ (stepsFrom_cons ?_ trivial)))))))))))
      · exact step_load rfl trivial _ _ _ rfl rfl (fun w hw => load_nt (hw.get 0 rfl))
      · exact step_load rfl trivial _ _ _ rfl rfl (fun w hw => load_nt (hw.get 1 rfl))
      · exact step_call rfl trivial 140 _ _ [(nt o t k), (nt (o') (t') (k'))] rfl (by kernel_rfl) (enters_of Tryz.func140 (by kernel_rfl) rfl) (fun w hw => (hri w).mono (by rintro e w' ⟨rfl, hb⟩; exact ⟨rfl, hw.carry hb⟩))
      · exact step_move rfl trivial _ rfl (by kernel_rfl)
      · exact step_load rfl (by exact ⟨_, rfl, by kernel_rfl⟩) _ _ _ rfl rfl (fun w hw => load_nt (hw.get 0 rfl))
      · exact step_call rfl (by exact ⟨_, rfl, by kernel_rfl⟩) 94 _ _ [(nt o t k)] rfl (by kernel_rfl) (enters_of Tryz.func94 (by kernel_rfl) rfl) (fun w hw => (rank_any o t k w).mono (by rintro e w' ⟨rfl, hb⟩; exact ⟨rfl, hw.carry hb⟩))
      · exact step_load rfl (by exact ⟨_, rfl, by kernel_rfl⟩) _ _ _ rfl rfl (fun w hw => load_nt (hw.get 1 rfl))
      · exact step_call rfl (by exact ⟨_, rfl, by kernel_rfl⟩) 94 _ _ [(nt (o') (t') (k'))] rfl (by kernel_rfl) (enters_of Tryz.func94 (by kernel_rfl) rfl) (fun w hw => (rank_any (o') (t') (k') w).mono (by rintro e w' ⟨rfl, hb⟩; exact ⟨rfl, hw.carry hb⟩))
      · exact step_binOp rfl (by exact ⟨_, rfl, by kernel_rfl⟩) _ _ _ _ _ _ _ rfl rfl rfl (fun w hw => (bin_gtr .i64 _ _).trans rfl)
      · exact step_pick rfl trivial _ _ _ true rfl (by kernel_rfl) (by kernel_rfl)
      · exact step_assign rfl trivial _ rfl (by kernel_rfl) (fun _ h => h)
    intro W hW
    first | refine hK _ _ ?_ | refine (‹∀ (a : Act) (w : World), Code.wp Tryz.prog _ _ a w → _›) _ _ ?_
    simp only [finL, List.getD_cons_zero, List.getD_cons_succ, Nat.zero_add, Nat.reduceAdd, List.setIfInBounds_toArray, List.set_cons_zero, List.set_cons_succ]
    go_wp2
    go_ret
    exact ⟨rfl, hW.below⟩
  | false =>
    have hb : bt o t k o' t' k' = false := by
      unfold rv at h
      unfold bt
      have h2 := of_decide_eq_false h
      apply decide_eq_false
      intro ⟨a, b, c, _⟩
      exact h2 ⟨a, b, c⟩
    rw [hb]
    have hri := rivals_any o t k o' t' k'
    rw [h] at hri
    go_enter Tryz.func96, Tryz.ntmps96
    unfold nt
    go_wp2
    rename_i Q0 K0 hK
    refine wp_region_any hmx ?_
    refine wpAny_pure (fun i__ => ([(nt o t k), (nt (o') (t') (k')), (.bool false), (.bool false), undef, undef, undef, undef, undef, (.bool false), (.bool false)] : List Value).getD i__ undef) (fun W => JL w [(w.heap.size, o, t, k), (w.heap.size + 1, o', t', k')] W) (by kernel_rfl) (hj0.carry (Below.refl _ _).drew) ?_ ?_
    · refine (stepsFrom_cons ?_ (stepsFrom_cons ?_ (stepsFrom_cons ?_ (stepsFrom_cons ?_ (stepsFrom_cons ?_ (stepsFrom_cons ?_ (stepsFrom_cons ?_ (stepsFrom_cons ?_ (stepsFrom_cons ?_ (stepsFrom_cons ?_ (stepsFrom_cons ?_ trivial)))))))))))
      · exact step_load rfl trivial _ _ _ rfl rfl (fun w hw => load_nt (hw.get 0 rfl))
      · exact step_load rfl trivial _ _ _ rfl rfl (fun w hw => load_nt (hw.get 1 rfl))
      · exact step_call rfl trivial 140 _ _ [(nt o t k), (nt (o') (t') (k'))] rfl (by kernel_rfl) (enters_of Tryz.func140 (by kernel_rfl) rfl) (fun w hw => (hri w).mono (by rintro e w' ⟨rfl, hb⟩; exact ⟨rfl, hw.carry hb⟩))
      · exact step_move rfl trivial _ rfl (by kernel_rfl)
      · exact step_skip rfl 3 true 8 (.bool false) rfl rfl (by kernel_rfl) (by intro h; cases h) rfl
      · exact step_skip rfl 3 true 8 (.bool false) rfl rfl (by kernel_rfl) (by intro h; cases h) rfl
      · exact step_skip rfl 3 true 8 (.bool false) rfl rfl (by kernel_rfl) (by intro h; cases h) rfl
      · exact step_skip rfl 3 true 8 (.bool false) rfl rfl (by kernel_rfl) (by intro h; cases h) rfl
      · exact step_skip rfl 3 true 8 (.bool false) rfl rfl (by kernel_rfl) (by intro h; cases h) rfl
      · exact step_pick rfl trivial _ _ _ false rfl (by kernel_rfl) (by kernel_rfl)
      · exact step_assign rfl trivial _ rfl (by kernel_rfl) (fun _ h => h)
    intro W hW
    first | refine hK _ _ ?_ | refine (‹∀ (a : Act) (w : World), Code.wp Tryz.prog _ _ a w → _›) _ _ ?_
    simp only [finL, List.getD_cons_zero, List.getD_cons_succ, Nat.zero_add, Nat.reduceAdd, List.setIfInBounds_toArray, List.set_cons_zero, List.set_cons_succ]
    go_wp2
    go_ret
    exact ⟨rfl, hW.below⟩
set_option maxHeartbeats 400000 in
theorem fresh_any (o : Int) (w : World) : Calls Tryz.prog 19 #[.int .i64 o] w fun e w' => e = .returned (nt o 0 1) ∧ Below w.heap.size w w' := by
  go_enter Tryz.func19, Tryz.ntmps19
  go_wp2
  exact retN rfl rfl rfl (new_at rfl) ⟨rfl, (Below.refl _ w).alloc (Nat.le_refl _) _⟩
/-- Is it a notice of one of n nodes? -/
def vl (n o t k : Int) : Bool := decide (1 ≤ n ∧ n ≤ 100 ∧ 0 ≤ o ∧ o < n ∧ rk t k ≠ -1)
set_option maxHeartbeats 1000000 in
theorem valid_any (n o t k : Int) (w : World) : Calls Tryz.prog 21 #[.int .i64 n, nt o t k] w fun e w' => e = .returned (.bool (vl n o t k)) ∧ Below w.heap.size w w' := by
  have hr1 := rank_any o t k
  unfold vl
  unfold nt at *
  generalize rk t k = r at *
  by_cases h1 : 1 ≤ n ∧ n ≤ 100 ∧ 0 ≤ o ∧ o < n
  · obtain ⟨a1, a2, a3, a4⟩ := h1
    go_enter Tryz.func21, Tryz.ntmps21
    go_wp2_with (go_at_call 94; (with_reducible refine (hr1 _).mono ?_); rintro e u1 ⟨rfl, hb1⟩)
    go_ret
    exact ⟨by by_cases h2 : r = -1 <;> simp [*], bel2 ((Below.refl _ w).alloc (by simp) _) hb1⟩
  · have hv : decide (1 ≤ n ∧ n ≤ 100 ∧ 0 ≤ o ∧ o < n ∧ r ≠ -1) = false := decide_eq_false (fun ⟨a, b, c, d, _⟩ => h1 ⟨a, b, c, d⟩)
    rw [hv]
    have h2 : n < 1 ∨ (1 ≤ n ∧ 100 < n) ∨ (1 ≤ n ∧ n ≤ 100 ∧ o < 0) ∨ (1 ≤ n ∧ n ≤ 100 ∧ 0 ≤ o ∧ n ≤ o) := by omega
    clear hv h1
    rcases h2 with h | ⟨h, h'⟩ | ⟨h, h', h''⟩ | ⟨h, h', h'', h3⟩
    all_goals
      go_enter Tryz.func21, Tryz.ntmps21
      go_wp2
      go_ret
      exact ⟨rfl, (Below.refl _ w).alloc (by simp) _⟩
end Go.Proofs.YtgehmidalfajgabGreatDoor
