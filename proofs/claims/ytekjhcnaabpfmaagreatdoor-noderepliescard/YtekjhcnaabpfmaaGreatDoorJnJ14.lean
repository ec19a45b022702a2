import Derived.Test.YtekjhcnaabpfmaaGreatDoorJnJ6
import Derived.Test.YtekjhcnaabpfmaaGreatDoorProg
import Derived.Test.YtekjhcnaabpfmaaGreatDoorJnJ0
import Derived.Shelf.Abstract
import Derived.Shelf.RegionOpen
import Derived.WalkKit
import Derived.WalkSpells
import Derived.OwnWalkIn
import Derived.TacticsInMore
import Derived.LoopNIn
import Derived.LoopIn
import Derived.Lib.OthersKept
import Derived.Deep.Light
import Derived.Laws.ResultCell
import Derived.Laws.Rows
import Derived.Test.YtekjhcnaabpfmaaGreatDoorJnJ3
import Derived.Test.YtekjhcnaabpfmaaGreatDoorJnJ1
set_option maxHeartbeats 40000000
set_option maxRecDepth 100000
set_option linter.unusedVariables false
namespace Go.Proofs.YtekjhcnaabpfmaaGreatDoor
open Go.RowKit Go.Shelf
def nt (o t k : Int) : Value := .agg #[.int .i64 o, .int .i64 t, .int .i64 k]
def rk (t k : Int) : Int := if t < 0 ∨ 1048576 < t then -1 else if k = 1 then 2 * t else if k = 2 then 2 * t + 1 else -1
theorem rk_lo {t k : Int} (h : t < 0 ∨ 1048576 < t) : rk t k = -1 := if_pos h
theorem rk_m {t : Int} (h : ¬ (t < 0 ∨ 1048576 < t)) : rk t 1 = 2 * t := by rw [rk, if_neg h, if_pos rfl]
theorem rk_s {t : Int} (h : ¬ (t < 0 ∨ 1048576 < t)) : rk t 2 = 2 * t + 1 := by rw [rk, if_neg h, if_neg (by decide), if_pos rfl]
theorem rk_n {t k : Int} (h1 : ¬ k = 1) (h2 : ¬ k = 2) : rk t k = -1 := by rw [rk, if_neg h1, if_neg h2]; split <;> rfl
theorem rank_any (o t k : Int) (w : World) : Calls Tryz.prog 143 #[nt o t k] w fun e w' => e = .returned (.int .i64 (rk t k)) ∧ Below w.heap.size w w' := by
 unfold nt
 by_cases h : t < 0 ∨ 1048576 < t
 · rw [rk_lo h]
   rcases h with h | h
   all_goals
     go_enter Tryz.func143, Tryz.ntmps143
     go_wp2
     go_ret
     exact ⟨rfl, (Below.refl _ w).alloc (Nat.le_refl _) _⟩
 · have h0 : ¬ t < 0 := by omega
   have h1 : ¬ 1048576 < t := by omega
   by_cases k1 : k = 1
   · subst k1
     rw [rk_m h]
     go_enter Tryz.func143, Tryz.ntmps143
     go_wp2
     go_ret
     exact ⟨rfl, (Below.refl _ w).alloc (Nat.le_refl _) _⟩
   · by_cases k2 : k = 2
     · subst k2
       rw [rk_s h]
       go_enter Tryz.func143, Tryz.ntmps143
       go_wp2
       go_ret
       exact ⟨rfl, (Below.refl _ w).alloc (Nat.le_refl _) _⟩
     · rw [rk_n k1 k2]
       go_enter Tryz.func143, Tryz.ntmps143
       go_wp2
       go_ret
       exact ⟨rfl, (Below.refl _ w).alloc (Nat.le_refl _) _⟩
theorem al1 (w : World) (a : Obj) : Below w.heap.size w (w.alloc a) := (Below.refl _ w).alloc (Nat.le_refl _) _
theorem al2 (w : World) (a b : Obj) : Below w.heap.size w ((w.alloc a).alloc b) := (al1 w a).alloc (al1 w a).size _
def NB (W : World) (B : Nat) (o t k : Int) : Prop := W.heap[B]? = some (.cells #[.int .i64 o, .int .i64 t, .int .i64 k] 65 (0, 0))
theorem NB.carry {W W' : World} {B : Nat} {o t k : Int} (h : NB W B o t k) (hb : Below W.heap.size W W') : NB W' B o t k := (hb.block _ (zla h)).trans h
theorem NB.old {W : World} {B : Nat} {o t k : Int} (h : NB W B o t k) (ob : Obj) : NB (W.alloc ob) B o t k := zoa h
theorem NB.new (W : World) (o t k : Int) : NB (W.alloc (.cells #[.int .i64 o, .int .i64 t, .int .i64 k] 65)) W.heap.size o t k := zna rfl
theorem NB.c0 {W : World} {B : Nat} {o t k : Int} (h : NB W B o t k) : W.cell? ⟨B, 0, none⟩ = some (.int .i64 o) := zca h 0
theorem NB.c1 {W : World} {B : Nat} {o t k : Int} (h : NB W B o t k) : W.cell? ⟨B, 1, none⟩ = some (.int .i64 t) := zca h 1
theorem NB.c2 {W : World} {B : Nat} {o t k : Int} (h : NB W B o t k) : W.cell? ⟨B, 2, none⟩ = some (.int .i64 k) := zca h 2
theorem NB.lt {W : World} {B : Nat} {o t k : Int} (h : NB W B o t k) : B < W.heap.size := zla h
theorem load_nt {W : World} {B : Nat} {o t k : Int} (h : NB W B o t k) : (Instr.loadAt 65 (.pointer (some ⟨B, 0, none⟩))).run Tryz.prog W = .ok (nt o t k) W := by
 have c0 := zca h 0
 have c1 := zca h 1
 have c2 := zca h 2
 unfold nt
 go_simp
theorem load_n0 {W : World} {B : Nat} {o t k : Int} (h : NB W B o t k) : (Instr.loadAt 3 (.pointer (some ⟨B, 0, none⟩))).run Tryz.prog W = .ok (.int .i64 o) W := by
 have c0 := zca h 0
 go_simp
theorem load_n1 {W : World} {B : Nat} {o t k : Int} (h : NB W B o t k) : (Instr.loadAt 3 (.pointer (some ⟨B, 1, none⟩))).run Tryz.prog W = .ok (.int .i64 t) W := by
 have c0 := zca h 1
 go_simp
theorem field_n0 (W : World) (B : Nat) : (Instr.fieldAt 65 (.pointer (some ⟨B, 0, none⟩)) 0).run Tryz.prog W = .ok (.pointer (some ⟨B, 0, none⟩)) W := by go_simp
theorem field_n1 (W : World) (B : Nat) : (Instr.fieldAt 65 (.pointer (some ⟨B, 0, none⟩)) 1).run Tryz.prog W = .ok (.pointer (some ⟨B, 1, none⟩)) W := by go_simp
structure JL (w : World) (L : List (Nat × Int × Int × Int)) (W : World) : Prop where
 all : ∀ x ∈ L, NB W x.1 x.2.1 x.2.2.1 x.2.2.2
 below : Below w.heap.size w W
theorem JL.get {w W : World} {L : List (Nat × Int × Int × Int)} (h : JL w L W) (i : Nat) {B : Nat} {o t k : Int} (hx : L[i]? = some (B, o, t, k)) : NB W B o t k := h.all _ (List.mem_of_getElem? hx)
theorem JL.carry {w W W' : World} {L : List (Nat × Int × Int × Int)} (h : JL w L W) (hb : Below W.heap.size W W') : JL w L W' := ⟨fun x hx => (h.all x hx).carry hb, bel2 h.below hb⟩
theorem JL.nil (w : World) : JL w [] w := ⟨by simp, Below.refl _ _⟩
theorem JL.new {w W : World} {L : List (Nat × Int × Int × Int)} (h : JL w L W) (o t k : Int) : JL w (L ++ [(W.heap.size, o, t, k)]) (W.alloc (.cells #[.int .i64 o, .int .i64 t, .int .i64 k] 65)) := by
 refine ⟨fun x hx => ?_, h.below.alloc h.below.size _⟩
 rcases List.mem_append.1 hx with hx | hx
 · exact (h.all x hx).old _
 · obtain rfl := List.mem_singleton.1 hx
   exact NB.new W o t k
theorem bin_eqn {x y : Operand} {w : World} (o t k o' t' k' : Int) : binRun Tryz.prog .eql 65 x y (nt o t k) (nt o' t' k') w = .ok (.bool (decide (o = o' ∧ t = t' ∧ k = k'))) w := by
 unfold binRun nt
 by_cases h : o = o'
 · by_cases h1 : t = t'
   · by_cases h2 : k = k' <;> go_simp
   · go_simp
 · go_simp
theorem retN {f : Func} {p : Tmp} {R : Ending → World → Prop} {a : Act} {w : World} {b : Nat} {o t k : Int} (hres : f.results = #[.cell p 65]) (hp : a.tmps.getD p undef = .pointer (some ⟨b, 0, none⟩)) (hd : a.defers = []) (h : NB w b o t k) (hR : R (.returned (nt o t k)) w) : bodyPost Tryz.prog f R .ret a w := by
 refine bodyPost_ret (v := nt o t k) ?_ hd hR
 have hp' : a.tmps[p]?.getD undef = .pointer (some ⟨b, 0, none⟩) := by simpa using hp
 have c0 := h.c0
 have c1 := h.c1
 have c2 := h.c2
 simp [results, hres, hp', asAddr]
 unfold nt
 go_simp
theorem retNt {f : Func} {p q : Tmp} {R : Ending → World → Prop} {a : Act} {w : World} {b : Nat} {o t k : Int} {x : Value} (hres : f.results = #[.cell p 65, .tmp q]) (hp : a.tmps.getD p undef = .pointer (some ⟨b, 0, none⟩)) (hq : a.tmps.getD q undef = x) (hd : a.defers = []) (h : NB w b o t k) (hR : R (.returned (.tuple #[nt o t k, x])) w) : bodyPost Tryz.prog f R .ret a w := by
 refine bodyPost_ret (v := .tuple #[nt o t k, x]) ?_ hd hR
 have hp' : a.tmps[p]?.getD undef = .pointer (some ⟨b, 0, none⟩) := by simpa using hp
 have hq' : a.tmps[q]?.getD undef = x := by simpa using hq
 have c0 := h.c0
 have c1 := h.c1
 have c2 := h.c2
 simp [results, hres, hp', hq', asAddr]
 unfold nt
 go_simp
theorem NB.at {W : World} {B : Nat} (o t k : Int) (h : B = W.heap.size) : NB (W.alloc (.cells #[.int .i64 o, .int .i64 t, .int .i64 k] 65)) B o t k := zna h
def W3 (W : World) (B : Nat) (o t k : Int) : World := ((W.setCell ⟨B, 0, none⟩ (.int .i64 o)).setCell ⟨B, 1, none⟩ (.int .i64 t)).setCell ⟨B, 2, none⟩ (.int .i64 k)
theorem NB.thaw {W : World} {B : Nat} {o t k : Int} (h : NB W B o t k) (j : Nat) : W.frozen? ⟨B, j, none⟩ = false := zta h j
theorem NB.set {W : World} {B : Nat} {o t k : Int} (h : NB W B o t k) (a b c : Int) : NB (W3 W B a b c) B a b c := by
 unfold NB W3
 have h0 := heap_setCell_same _ _ 0 _ _ (.int .i64 a) h
 have h1 := heap_setCell_same _ _ 1 _ _ (.int .i64 b) h0
 have h2 := heap_setCell_same _ _ 2 _ _ (.int .i64 c) h1
 simpa using h2
theorem below3 {w0 w : World} {n B : Nat} (hb : Below n w0 w) (hB : n ≤ B) (a b c : Int) : Below n w0 (W3 w B a b c) := ((hb.setCell hB _).setCell hB _).setCell hB _
theorem store_nt {W : World} {B : Nat} {o t k : Int} (h : NB W B o t k) (a b c : Int) : (Instr.storeAt 65 (.pointer (some ⟨B, 0, none⟩)) (nt a b c)).run Tryz.prog W = .ok () (W3 W B a b c) := by
 have c0 := h.c0
 have c1 := h.c1
 have c2 := h.c2
 have z0 := h.thaw 0
 have z1 := h.thaw 1
 have z2 := h.thaw 2
 unfold nt W3
 go_simp
theorem rk_ok {t k : Int} : rk t k ≠ -1 ↔ 0 ≤ t ∧ t ≤ 1048576 ∧ (k = 1 ∨ k = 2) := by
 unfold rk
 by_cases h : t < 0 ∨ 1048576 < t
 · rw [if_pos h]; omega
 · rw [if_neg h]
   by_cases k1 : k = 1
   · rw [if_pos k1]; omega
   · rw [if_neg k1]
     by_cases k2 : k = 2
     · rw [if_pos k2]; omega
     · rw [if_neg k2]; omega
def rv (o t k o' t' k' : Int) : Bool := decide (o = o' ∧ rk t k ≠ -1 ∧ rk t' k' ≠ -1)
theorem rivals_any (o t k o' t' k' : Int) (w : World) : Calls Tryz.prog 165 #[nt o t k, nt o' t' k'] w fun e w' => e = .returned (.bool (rv o t k o' t' k')) ∧ Below w.heap.size w w' := by
 have hr1 := rank_any o t k
 have hr2 := rank_any o' t' k'
 unfold rv
 unfold nt at *
 generalize rk t k = r1 at *
 generalize rk t' k' = r2 at *
 by_cases h0 : o = o'
 · subst h0
   by_cases h1 : r1 = -1
   · go_enter Tryz.func165, Tryz.ntmps165
     go_wp2_with (go_at_call 143; (with_reducible refine (hr1 _).mono ?_); rintro e u1 ⟨rfl, hb1⟩)
     go_ret
     exact ⟨by simp [h1], bel2 (((Below.refl _ w).alloc (by simp) _).alloc (by simp) _) hb1⟩
   · go_enter Tryz.func165, Tryz.ntmps165
     go_wp2_with (go_at_call 143; first | ((with_reducible refine (hr1 _).mono ?_); rintro e u1 ⟨rfl, hb1⟩; have hn1 : NB u1 (w.heap.size + 1) o t' k' := NB.carry (by unfold NB; exact zna (by simp)) hb1; have c0 := hn1.c0; have c1 := hn1.c1; have c2 := hn1.c2; have hl1 := hn1.lt) | ((with_reducible refine (hr2 _).mono ?_); rintro e u2 ⟨rfl, hb2⟩))
     go_ret
     exact ⟨by by_cases h2 : r2 = -1 <;> simp [h1, h2], bel2 (bel2 (((Below.refl _ w).alloc (by simp) _).alloc (by simp) _) hb1) hb2⟩
 · go_enter Tryz.func165, Tryz.ntmps165
   go_wp2
   go_ret
   exact ⟨by simp [h0], (((Below.refl _ w).alloc (by simp) _).alloc (by simp) _)⟩
def bt (o t k o' t' k' : Int) : Bool := decide (o = o' ∧ rk t k ≠ -1 ∧ rk t' k' ≠ -1 ∧ rk t' k' < rk t k)
theorem beats_any (o t k o' t' k' : Int) (w : World) : Calls Tryz.prog 145 #[nt o t k, nt o' t' k'] w fun e w' => e = .returned (.bool (bt o t k o' t' k')) ∧ Below w.heap.size w w' := by
 have hmx := mixO
 have hj0 : JL w [(w.heap.size, o, t, k), (w.heap.size + 1, o', t', k')] ((w.alloc (.cells #[.int .i64 o, .int .i64 t, .int .i64 k] 65)).alloc (.cells #[.int .i64 o', .int .i64 t', .int .i64 k'] 65)) := by
  have := ((JL.nil w).new o t k).new o' t' k'
  simpa using this
 cases h : rv o t k o' t' k' with
 | true =>
  have hb : bt o t k o' t' k' = decide (rk t' k' < rk t k) := by
    unfold rv at h
    unfold bt
    have := of_decide_eq_true h
    simp [this]
  rw [hb]
  have hri := rivals_any o t k o' t' k'
  rw [h] at hri
  go_enter Tryz.func145, Tryz.ntmps145
  unfold nt
  go_wp2
  rename_i Q0 K0 hK
  refine wp_region_any hmx ?_
  refine zwp (fun i__ => ([(nt o t k), (nt (o') (t') (k')), (.bool true), (.bool true), (nt o t k), (.int .i64 (rk t k)), (nt (o') (t') (k')), (.int .i64 (rk (t') (k'))), (.bool (decide (rk t' k' < rk t k))), (.bool (decide (rk t' k' < rk t k))), (.bool (decide (rk t' k' < rk t k)))] : List Value).getD i__ undef) (fun W => JL w [(w.heap.size, o, t, k), (w.heap.size + 1, o', t', k')] W) (by kernel_rfl) (hj0.carry (Below.refl _ _).drew) ?_ ?_
  · refine (sqc ?_ (sqc ?_ (sqc ?_ (sqc ?_ (sqc ?_ (sqc ?_ (sqc ?_ (sqc ?_ (sqc ?_ (sqc ?_ (sqc ?_ trivial)))))))))))
    · exact zld rfl trivial _ _ _ rfl rfl (fun w hw => load_nt (hw.get 0 rfl))
    · exact zld rfl trivial _ _ _ rfl rfl (fun w hw => load_nt (hw.get 1 rfl))
    · exact zsc rfl trivial 165 _ _ [(nt o t k), (nt (o') (t') (k'))] rfl (by kernel_rfl) (enters_of Tryz.func165 (by kernel_rfl) rfl) (fun w hw => (hri w).mono (by rintro e w' ⟨rfl, hb⟩; exact ⟨rfl, hw.carry hb⟩))
    · exact zmv rfl trivial _ rfl (by kernel_rfl)
    · exact zld rfl ⟨_, rfl, by kernel_rfl⟩ _ _ _ rfl rfl (fun w hw => load_nt (hw.get 0 rfl))
    · exact zsc rfl ⟨_, rfl, by kernel_rfl⟩ 143 _ _ [(nt o t k)] rfl (by kernel_rfl) (enters_of Tryz.func143 (by kernel_rfl) rfl) (fun w hw => (rank_any o t k w).mono (by rintro e w' ⟨rfl, hb⟩; exact ⟨rfl, hw.carry hb⟩))
    · exact zld rfl ⟨_, rfl, by kernel_rfl⟩ _ _ _ rfl rfl (fun w hw => load_nt (hw.get 1 rfl))
    · exact zsc rfl ⟨_, rfl, by kernel_rfl⟩ 143 _ _ [(nt (o') (t') (k'))] rfl (by kernel_rfl) (enters_of Tryz.func143 (by kernel_rfl) rfl) (fun w hw => (rank_any (o') (t') (k') w).mono (by rintro e w' ⟨rfl, hb⟩; exact ⟨rfl, hw.carry hb⟩))
    · exact zbo rfl ⟨_, rfl, by kernel_rfl⟩ _ _ _ _ _ _ _ rfl rfl rfl (fun w hw => (bin_gtr .i64 _ _).trans rfl)
    · exact step_pick rfl trivial _ _ _ true rfl (by kernel_rfl) (by kernel_rfl)
    · exact zas rfl trivial _ rfl (by kernel_rfl) (fun _ h => h)
  intro W hW
  first | refine hK _ _ ?_ | refine (‹∀ (a : Act) (w : World), Code.wp Tryz.prog _ _ a w → _›) _ _ ?_
  simp only [finL, List.getD_cons_zero, List.getD_cons_succ, Nat.zero_add, Nat.reduceAdd, List.setIfInBounds_toArray, List.set_cons_zero, List.set_cons_succ]
  go_wp2
  go_ret
  exact ⟨rfl, hW.below⟩
 | false =>
  have hb : bt o t k o' t' k' = false := by
    unfold rv at h
    unfold bt
    have h2 := of_decide_eq_false h
    apply decide_eq_false
    intro ⟨a, b, c, _⟩
    exact h2 ⟨a, b, c⟩
  rw [hb]
  have hri := rivals_any o t k o' t' k'
  rw [h] at hri
  go_enter Tryz.func145, Tryz.ntmps145
  unfold nt
  go_wp2
  rename_i Q0 K0 hK
  refine wp_region_any hmx ?_
  refine zwp (fun i__ => ([(nt o t k), (nt (o') (t') (k')), (.bool false), (.bool false), undef, undef, undef, undef, undef, (.bool false), (.bool false)] : List Value).getD i__ undef) (fun W => JL w [(w.heap.size, o, t, k), (w.heap.size + 1, o', t', k')] W) (by kernel_rfl) (hj0.carry (Below.refl _ _).drew) ?_ ?_
  · refine (sqc ?_ (sqc ?_ (sqc ?_ (sqc ?_ (sqc ?_ (sqc ?_ (sqc ?_ (sqc ?_ (sqc ?_ (sqc ?_ (sqc ?_ trivial)))))))))))
    · exact zld rfl trivial _ _ _ rfl rfl (fun w hw => load_nt (hw.get 0 rfl))
    · exact zld rfl trivial _ _ _ rfl rfl (fun w hw => load_nt (hw.get 1 rfl))
    · exact zsc rfl trivial 165 _ _ [(nt o t k), (nt (o') (t') (k'))] rfl (by kernel_rfl) (enters_of Tryz.func165 (by kernel_rfl) rfl) (fun w hw => (hri w).mono (by rintro e w' ⟨rfl, hb⟩; exact ⟨rfl, hw.carry hb⟩))
    · exact zmv rfl trivial _ rfl (by kernel_rfl)
    · exact zsk rfl 3 true 8 (.bool false) rfl rfl (by kernel_rfl) (by intro h; cases h) rfl
    · exact zsk rfl 3 true 8 (.bool false) rfl rfl (by kernel_rfl) (by intro h; cases h) rfl
    · exact zsk rfl 3 true 8 (.bool false) rfl rfl (by kernel_rfl) (by intro h; cases h) rfl
    · exact zsk rfl 3 true 8 (.bool false) rfl rfl (by kernel_rfl) (by intro h; cases h) rfl
    · exact zsk rfl 3 true 8 (.bool false) rfl rfl (by kernel_rfl) (by intro h; cases h) rfl
    · exact step_pick rfl trivial _ _ _ false rfl (by kernel_rfl) (by kernel_rfl)
    · exact zas rfl trivial _ rfl (by kernel_rfl) (fun _ h => h)
  intro W hW
  first | refine hK _ _ ?_ | refine (‹∀ (a : Act) (w : World), Code.wp Tryz.prog _ _ a w → _›) _ _ ?_
  simp only [finL, List.getD_cons_zero, List.getD_cons_succ, Nat.zero_add, Nat.reduceAdd, List.setIfInBounds_toArray, List.set_cons_zero, List.set_cons_succ]
  go_wp2
  go_ret
  exact ⟨rfl, hW.below⟩
theorem fresh_any (o : Int) (w : World) : Calls Tryz.prog 18 #[.int .i64 o] w fun e w' => e = .returned (nt o 0 1) ∧ Below w.heap.size w w' := by
 go_enter Tryz.func18, Tryz.ntmps18
 go_wp2
 exact retN rfl rfl rfl (zna rfl) ⟨rfl, (Below.refl _ w).alloc (Nat.le_refl _) _⟩
def rpV (o t k : Int) : Value := if rk t k = -1 ∨ k ≠ 2 then .tuple #[nt 0 0 0, .int .i64 50] else if t = 1048576 then .tuple #[nt 0 0 0, .int .i64 120] else .tuple #[nt o (t + 1) 1, .int .i64 0]
theorem reply_any (o t k : Int) (w : World) : Calls Tryz.prog 150 #[nt o t k] w fun e w' => e = .returned (rpV o t k) ∧ Below w.heap.size w w' := by
 have hr1 := rank_any o t k
 unfold rpV
 by_cases h1 : rk t k = -1
 · rw [if_pos (.inl h1)]
   rw [h1] at hr1
   unfold nt at hr1
   go_enter Tryz.func150, Tryz.ntmps150
   unfold nt
   go_wp2_with (go_at_call 143; (with_reducible refine (hr1 _).mono ?_); rintro e u1 ⟨rfl, hb1⟩; have hn1 : NB u1 (w.heap.size + 1) 0 0 0 := NB.carry (NB.at _ _ _ (by simp)) hb1; have c0 := hn1.c0; have c1 := hn1.c1; have c2 := hn1.c2; have z0 := hn1.thaw 0; have z1 := hn1.thaw 1; have z2 := hn1.thaw 2)
   exact retNt rfl rfl rfl rfl (hn1.set 0 0 0) ⟨rfl, below3 (bel2 (((Below.refl _ w).alloc (by simp) _).alloc (by simp) _) hb1) (by simp) _ _ _⟩
 · by_cases h2 : k = 2
   · subst h2
     rw [if_neg (by simp [h1])]
     have ht : ¬ (t < 0 ∨ 1048576 < t) := fun h => h1 (rk_lo h)
     generalize rk t 2 = r at *
     unfold nt at hr1
     by_cases h3 : t = 1048576
     · subst h3
       rw [if_pos rfl]
       go_enter Tryz.func150, Tryz.ntmps150
       unfold nt
       go_wp2_with (go_at_call 143; (with_reducible refine (hr1 _).mono ?_); rintro e u1 ⟨rfl, hb1⟩; have hn1 : NB u1 (w.heap.size + 1) 0 0 0 := NB.carry (NB.at _ _ _ (by simp)) hb1; have c0 := hn1.c0; have c1 := hn1.c1; have c2 := hn1.c2; have z0 := hn1.thaw 0; have z1 := hn1.thaw 1; have z2 := hn1.thaw 2; have hm1 : NB u1 w.heap.size o 1048576 2 := NB.carry ((NB.at _ _ _ rfl).old _) hb1; have e0 := hm1.c0; have e1 := hm1.c1; have e2 := hm1.c2)
       exact retNt rfl rfl rfl rfl (hn1.set 0 0 0) ⟨rfl, below3 (bel2 (((Below.refl _ w).alloc (by simp) _).alloc (by simp) _) hb1) (by simp) _ _ _⟩
     · rw [if_neg h3]
       go_enter Tryz.func150, Tryz.ntmps150
       unfold nt
       go_wp2_with (go_at_call 143; (with_reducible refine (hr1 _).mono ?_); rintro e u1 ⟨rfl, hb1⟩; have hn1 : NB u1 (w.heap.size + 1) 0 0 0 := NB.carry (NB.at _ _ _ (by simp)) hb1; have c0 := hn1.c0; have c1 := hn1.c1; have c2 := hn1.c2; have z0 := hn1.thaw 0; have z1 := hn1.thaw 1; have z2 := hn1.thaw 2; have hm1 : NB u1 w.heap.size o t 2 := NB.carry ((NB.at _ _ _ rfl).old _) hb1; have e0 := hm1.c0; have e1 := hm1.c1; have e2 := hm1.c2)
       exact retNt rfl rfl rfl rfl (hn1.set o (t + 1) 1) ⟨rfl, below3 (bel2 (((Below.refl _ w).alloc (by simp) _).alloc (by simp) _) hb1) (by simp) _ _ _⟩
   · rw [if_pos (.inr h2)]
     generalize rk t k = r at *
     have hk2 : (r == -1 || k != 2) = true := by simp [h2]
     unfold nt at hr1
     go_enter Tryz.func150, Tryz.ntmps150
     unfold nt
     go_wp2_with (go_at_call 143; (with_reducible refine (hr1 _).mono ?_); rintro e u1 ⟨rfl, hb1⟩; have hn1 : NB u1 (w.heap.size + 1) 0 0 0 := NB.carry (NB.at _ _ _ (by simp)) hb1; have c0 := hn1.c0; have c1 := hn1.c1; have c2 := hn1.c2; have z0 := hn1.thaw 0; have z1 := hn1.thaw 1; have z2 := hn1.thaw 2; have hm1 : NB u1 w.heap.size o t k := NB.carry ((NB.at _ _ _ rfl).old _) hb1; have e0 := hm1.c0; have e1 := hm1.c1; have e2 := hm1.c2)
     exact retNt rfl rfl rfl rfl (hn1.set 0 0 0) ⟨rfl, below3 (bel2 (((Below.refl _ w).alloc (by simp) _).alloc (by simp) _) hb1) (by simp) _ _ _⟩
def vl (n o t k : Int) : Bool := decide (1 ≤ n ∧ n ≤ 100 ∧ 0 ≤ o ∧ o < n ∧ rk t k ≠ -1)
theorem valid_any (n o t k : Int) (w : World) : Calls Tryz.prog 113 #[.int .i64 n, nt o t k] w fun e w' => e = .returned (.bool (vl n o t k)) ∧ Below w.heap.size w w' := by
 have hr1 := rank_any o t k
 unfold vl
 unfold nt at *
 generalize rk t k = r at *
 by_cases h1 : 1 ≤ n ∧ n ≤ 100 ∧ 0 ≤ o ∧ o < n
 · obtain ⟨a1, a2, a3, a4⟩ := h1
   go_enter Tryz.func113, Tryz.ntmps113
   go_wp2_with (go_at_call 143; (with_reducible refine (hr1 _).mono ?_); rintro e u1 ⟨rfl, hb1⟩)
   go_ret
   exact ⟨by by_cases h2 : r = -1 <;> simp [*], bel2 ((Below.refl _ w).alloc (by simp) _) hb1⟩
 · have hv : decide (1 ≤ n ∧ n ≤ 100 ∧ 0 ≤ o ∧ o < n ∧ r ≠ -1) = false := decide_eq_false (fun ⟨a, b, c, d, _⟩ => h1 ⟨a, b, c, d⟩)
   rw [hv]
   have h2 : n < 1 ∨ (1 ≤ n ∧ 100 < n) ∨ (1 ≤ n ∧ n ≤ 100 ∧ o < 0) ∨ (1 ≤ n ∧ n ≤ 100 ∧ 0 ≤ o ∧ n ≤ o) := by omega
   clear hv h1
   rcases h2 with h | ⟨h, h'⟩ | ⟨h, h', h''⟩ | ⟨h, h', h'', h3⟩
   all_goals
    go_enter Tryz.func113, Tryz.ntmps113
    go_wp2
    go_ret
    exact ⟨rfl, (Below.refl _ w).alloc (by simp) _⟩
end Go.Proofs.YtekjhcnaabpfmaaGreatDoor
namespace Go.Proofs.YtekjhcnaabpfmaaGreatDoor
abbrev N3 := Int × Int × Int
def rkx (x : N3) : Int := rk x.2.1 x.2.2
def Bok (l : List N3) : Prop := ∀ (i : Nat) (x : N3), l[i]? = some x → x.1 = (i : Int) ∧ rkx x ≠ -1
def rkl (l : List N3) (i : Nat) : Int := match l[i]? with | some x => rkx x | none => -1
theorem rkl_some {l : List N3} {i : Nat} {x : N3} (h : l[i]? = some x) : rkl l i = rkx x := by simp [rkl, h]
def frs (n : Nat) : List N3 := (List.range n).map fun (i : Nat) => ((i : Int), 0, 1)
def bk0 (n s : Nat) (tag : Int) : List N3 := (frs n).set s ((s : Int), tag, 1)
theorem frs_len (n : Nat) : (frs n).length = n := by simp [frs]
theorem frs_get {n i : Nat} (h : i < n) : (frs n)[i]? = some ((i : Int), 0, 1) := by simp [frs, h]
theorem bk0_len (n s : Nat) (tag : Int) : (bk0 n s tag).length = n := by simp [bk0, frs_len]
theorem bk0_get {n s i : Nat} (tag : Int) (h : i < n) : (bk0 n s tag)[i]? = some (if i = s then ((s : Int), tag, 1) else ((i : Int), 0, 1)) := by
 unfold bk0
 rw [List.getElem?_set, frs_len, frs_get h]
 by_cases e : s = i
 · subst e; simp [h]
 · rw [if_neg e, if_neg (fun q => e q.symm)]
theorem bk0_bok {n s : Nat} {tag : Int} (h0 : 0 ≤ tag) (h1 : tag ≤ 1048576) : Bok (bk0 n s tag) := by
 intro i x hx
 have hi : i < n := by have := (List.getElem?_eq_some_iff.1 hx).1; rwa [bk0_len] at this
 rw [bk0_get tag hi] at hx
 obtain rfl := Option.some.inj hx
 by_cases e : i = s
 · subst e
   rw [if_pos rfl]
   exact ⟨rfl, rk_ok.2 ⟨h0, h1, .inl rfl⟩⟩
 · rw [if_neg e]
   exact ⟨rfl, rk_ok.2 ⟨Int.le_refl _, (by decide : (0 : Int) ≤ 1048576), .inl rfl⟩⟩
def btx (x y : N3) : Bool := bt x.1 x.2.1 x.2.2 y.1 y.2.1 y.2.2
def bat (l : List N3) (x : N3) : Bool := match l[x.1.toNat]? with | some y => btx x y | none => false
def rse (l : List N3) (x : N3) : List N3 := if bat l x = true then l.set x.1.toNat x else l
def vlx (n : Nat) (x : N3) : Bool := vl (n : Int) x.1 x.2.1 x.2.2
def tke (l : List N3) (x : N3) : List N3 := if vlx l.length x = true then rse l x else l
theorem vlx_iff {n : Nat} {x : N3} : vlx n x = true ↔ (1 ≤ n ∧ n ≤ 100 ∧ 0 ≤ x.1 ∧ x.1.toNat < n ∧ rkx x ≠ -1) := by
 unfold vlx vl rkx
 rw [decide_eq_true_iff]
 constructor
 · rintro ⟨h1, h2, h3, h4, h5⟩; exact ⟨by omega, by omega, h3, by omega, h5⟩
 · rintro ⟨h1, h2, h3, h4, h5⟩; exact ⟨by omega, by omega, h3, by omega, h5⟩
theorem rse_len (l : List N3) (x : N3) : (rse l x).length = l.length := by unfold rse; split <;> simp
theorem tke_len (l : List N3) (x : N3) : (tke l x).length = l.length := by unfold tke; split <;> simp [rse_len]
theorem bat_iff {l : List N3} {x : N3} (hb : Bok l) (hv : vlx l.length x = true) : bat l x = decide (rkl l x.1.toNat < rkx x) := by
 obtain ⟨_, _, h0, h1, h2⟩ := vlx_iff.1 hv
 obtain ⟨y, hy⟩ : ∃ y, l[x.1.toNat]? = some y := ⟨_, List.getElem?_eq_getElem h1⟩
 obtain ⟨y0, y1⟩ := hb _ y hy
 unfold bat
 rw [rkl_some hy, hy]
 have e : x.1 = y.1 := by omega
 unfold rkx at *
 unfold btx bt
 exact decide_eq_decide.2 ⟨fun h => h.2.2.2, fun h => ⟨e, h2, y1, h⟩⟩
theorem rse_rk {l : List N3} {x : N3} (hb : Bok l) (hv : vlx l.length x = true) (i : Nat) : rkl (rse l x) i = if i = x.1.toNat then max (rkl l i) (rkx x) else rkl l i := by
 obtain ⟨_, _, h0, h1, h2⟩ := vlx_iff.1 hv
 unfold rse
 rw [bat_iff hb hv]
 by_cases h : rkl l x.1.toNat < rkx x
 · rw [if_pos (decide_eq_true h)]
   by_cases e : i = x.1.toNat
   · subst e
     rw [if_pos rfl, rkl_some (x := x) (by rw [List.getElem?_set]; simp [h1])]
     omega
   · rw [if_neg e]
     unfold rkl
     rw [List.getElem?_set, if_neg (fun q => e q.symm)]
 · rw [if_neg (by simpa using h)]
   by_cases e : i = x.1.toNat
   · subst e; rw [if_pos rfl]; omega
   · rw [if_neg e]
theorem rse_bok {l : List N3} {x : N3} (hb : Bok l) (hv : vlx l.length x = true) : Bok (rse l x) := by
 obtain ⟨_, _, h0, h1, h2⟩ := vlx_iff.1 hv
 unfold rse
 split
 · intro i y hy
   rw [List.getElem?_set] at hy
   by_cases e : x.1.toNat = i
   · subst e
     simp only [h1, if_true] at hy
     obtain rfl := Option.some.inj hy
     exact ⟨by omega, h2⟩
   · rw [if_neg e] at hy
     exact hb i y hy
 · exact hb
theorem tke_bok {l : List N3} (hb : Bok l) (x : N3) : Bok (tke l x) := by
 unfold tke
 split
 · next h => exact rse_bok hb h
 · exact hb
def upr (n i : Nat) (r : Int) (x : N3) : Int := if vlx n x = true ∧ i = x.1.toNat then max r (rkx x) else r
theorem tke_rk {l : List N3} (hb : Bok l) (x : N3) (i : Nat) : rkl (tke l x) i = upr l.length i (rkl l i) x := by
 unfold tke upr
 by_cases hv : vlx l.length x = true
 · rw [if_pos hv, rse_rk hb hv]
   by_cases e : i = x.1.toNat
   · rw [if_pos e, if_pos ⟨hv, e⟩]
   · rw [if_neg e, if_neg (fun q => e q.2)]
 · rw [if_neg hv, if_neg (fun q => hv q.1)]
theorem fold_tke : ∀ (m : List N3) {l : List N3}, Bok l → Bok (m.foldl tke l) ∧ (m.foldl tke l).length = l.length ∧ ∀ i, rkl (m.foldl tke l) i = m.foldl (upr l.length i) (rkl l i)
 | [], l, hb => ⟨hb, rfl, fun _ => rfl⟩
 | x :: m, l, hb => by
  obtain ⟨h1, h2, h3⟩ := fold_tke m (tke_bok hb x)
  refine ⟨h1, h2.trans (tke_len l x), fun i => ?_⟩
  have := h3 i
  rw [tke_len, tke_rk hb] at this
  exact this
def mrg (l m : List N3) : List N3 := if m.all (vlx l.length) = true then m.foldl rse l else l
def bst (s : List N3 × Nat) (x : N3) : List N3 × Nat := if bat s.1 x = true then (rse s.1 x, s.2 ||| 2 ^ x.1.toNat) else s
def mrs (l m : List N3) : Nat := if m.all (vlx l.length) = true then (m.foldl bst (l, 0)).2 else 0
theorem fold_rse : ∀ (m : List N3) {l : List N3}, m.all (vlx l.length) = true → m.foldl rse l = m.foldl tke l
 | [], l, _ => rfl
 | x :: m, l, h => by
  rw [List.all_cons, Bool.and_eq_true] at h
  have e : tke l x = rse l x := if_pos h.1
  rw [List.foldl_cons, List.foldl_cons, e]
  exact fold_rse m (by rw [rse_len]; exact h.2)
theorem bst_1 (s : List N3 × Nat) (x : N3) : (bst s x).1 = rse s.1 x := by
 unfold bst
 by_cases h : bat s.1 x = true
 · rw [if_pos h]
 · rw [if_neg h, rse, if_neg h]
theorem fold_bst : ∀ (m : List N3) (s : List N3 × Nat), (m.foldl bst s).1 = m.foldl rse s.1
 | [], s => rfl
 | x :: m, s => by rw [List.foldl_cons, List.foldl_cons, fold_bst m, bst_1]
theorem mrg_bok {l : List N3} (hb : Bok l) (m : List N3) : Bok (mrg l m) := by
 unfold mrg
 split
 · next h => rw [fold_rse m h]; exact (fold_tke m hb).1
 · exact hb
theorem mrg_len {l : List N3} (hb : Bok l) (m : List N3) : (mrg l m).length = l.length := by
 unfold mrg
 split
 · next h => rw [fold_rse m h]; exact (fold_tke m hb).2.1
 · rfl
theorem bst_lt : ∀ (m : List N3) {l : List N3} (N : Nat), m.all (vlx l.length) = true → N < 2 ^ 100 → (m.foldl bst (l, N)).2 < 2 ^ 100
 | [], l, N, _, h => h
 | x :: m, l, N, hv, h => by
  rw [List.all_cons, Bool.and_eq_true] at hv
  rw [List.foldl_cons]
  by_cases hbt : bat l x = true
  · have eb : bst (l, N) x = (rse l x, N ||| 2 ^ x.1.toNat) := if_pos hbt
    rw [eb]
    refine bst_lt m _ (by rw [rse_len]; exact hv.2) (Nat.or_lt_two_pow h ?_)
    obtain ⟨_, h1, _, h2, _⟩ := vlx_iff.1 hv.1
    exact Nat.pow_lt_pow_right (by decide) (by omega)
  · have eb : bst (l, N) x = (l, N) := if_neg hbt
    rw [eb]
    exact bst_lt m N hv.2 h
end Go.Proofs.YtekjhcnaabpfmaaGreatDoor
