/- NoticeOrder: for all three notices, of one node: an order; Max is commutative, associative, and of one alone that one; no condition. -/
import Derived.Test.YtebpngapkkdifaaRows
import Derived.WalkKit
import Derived.ProofKit
import Derived.OpenShut
import Derived.Test.YtebpngapkkdifaaNte
import Derived.Test.YtebpngapkkdifaaOpt
import Derived.Test.YtebpngapkkdifaaSlg
namespace Go.Proofs.Ytebpngapkkdifaa
open Go.ChangeShapes Go.WideShapes Go.ChangeAt Go.RowKit
set_option linter.unusedVariables false


theorem own : ownKnob Try.prog.godebug = none := by kernel_rfl
theorem NB.set0 {W : World} {B : Nat} {o t k : Int} (h : NB W B o t k) (a : Int) : NB (W.setCell ⟨B, 0, none⟩ (.int .i64 a)) B a t k := by
  have h0 := heap_setCell_same _ _ 0 _ _ (.int .i64 a) h
  unfold NB
  simpa using h0
theorem NB.other {W : World} {B B' j : Nat} {o t k : Int} (h : NB W B o t k) (hne : B ≠ B') (v : Value) : NB (W.setCell ⟨B', j, none⟩ v) B o t k := (Below.heap_setCell _ _ _ _ hne).trans h
theorem JL.put {w W : World} {L : List (Nat × Int × Int × Int)} (h : JL w L W) (i : Nat) {B : Nat} {o t k : Int} (hi : L[i]? = some (B, o, t, k)) (hne : ∀ j x, j ≠ i → L[j]? = some x → x.1 ≠ B) (hB : w.heap.size ≤ B) (a : Int) : JL w (L.set i (B, a, t, k)) (W.setCell ⟨B, 0, none⟩ (.int .i64 a)) := by
  refine ⟨fun z hz => ?_, h.below.setCell hB _⟩
  obtain ⟨j, hj⟩ := List.mem_iff_getElem?.1 hz
  rw [List.getElem?_set] at hj
  by_cases e : i = j
  · subst e
    have hl : i < L.length := (List.getElem?_eq_some_iff.1 hi).1
    simp only [hl, if_true] at hj
    obtain rfl := Option.some.inj hj
    exact (h.get i hi).set0 a
  · simp only [e, if_false] at hj
    exact (h.all _ (List.mem_of_getElem? hj)).other (hne j z (fun q => e q.symm) hj) _
theorem store_n0 {W : World} {B : Nat} {o t k : Int} (h : NB W B o t k) (a : Int) : (Instr.storeAt 3 (.pointer (some ⟨B, 0, none⟩)) (.int .i64 a)).run Try.prog W = .ok () (W.setCell ⟨B, 0, none⟩ (.int .i64 a)) := by
  have c0 := h.c0
  have z0 := h.thaw 0
  go_simp
/-- While the nodes are put: what lies in the three boxes. -/
def JP (w : World) (o0 t0 k0 o1 t1 k1 o2 t2 k2 : Int) (x5 x7 : Bool) (W : World) : Prop := JL w [(w.heap.size, o0, t0, k0), (w.heap.size + 1, (if x5 = true then o0 else o1), t1, k1), (w.heap.size + 2, (if x7 = true then o0 else o2), t2, k2)] W
theorem JP.l0 {w : World} {o0 t0 k0 o1 t1 k1 o2 t2 k2 : Int} {x5 x7 : Bool} {W : World} (h : JP w o0 t0 k0 o1 t1 k1 o2 t2 k2 x5 x7 W) : NB W w.heap.size o0 t0 k0 := JL.get h 0 rfl
theorem JP.st5 {w : World} {o0 t0 k0 o1 t1 k1 o2 t2 k2 : Int} {x5 x7 : Bool} {W : World} (h : JP w o0 t0 k0 o1 t1 k1 o2 t2 k2 x5 x7 W) : ∃ W', (Instr.storeAt 3 (.pointer (some ⟨w.heap.size + 1, 0, none⟩)) (.int .i64 o0)).run Try.prog W = .ok () W' ∧ JP w o0 t0 k0 o1 t1 k1 o2 t2 k2 true x7 W' := by
  refine ⟨_, store_n0 (JL.get h 1 rfl) o0, JL.put h 1 rfl ?_ (by omega) o0⟩
  intro j x hj hx
  match j, hj, hx with
  | 0, _, hx => cases hx; simp
  | 2, _, hx => cases hx; simp
  | _ + 3, _, hx => simp at hx
theorem JP.st7 {w : World} {o0 t0 k0 o1 t1 k1 o2 t2 k2 : Int} {x5 x7 : Bool} {W : World} (h : JP w o0 t0 k0 o1 t1 k1 o2 t2 k2 x5 x7 W) : ∃ W', (Instr.storeAt 3 (.pointer (some ⟨w.heap.size + 2, 0, none⟩)) (.int .i64 o0)).run Try.prog W = .ok () W' ∧ JP w o0 t0 k0 o1 t1 k1 o2 t2 k2 x5 true W' := by
  refine ⟨_, store_n0 (JL.get h 2 rfl) o0, JL.put h 2 rfl ?_ (by omega) o0⟩
  intro j x hj hx
  match j, hj, hx with
  | 0, _, hx => cases hx; simp
  | 1, _, hx => cases hx; simp
  | _ + 3, _, hx => simp at hx
structure Hid (p : Prop) : Prop where
  h : p
theorem mx_rk (t k t' k' : Int) : rk (mxt t k t' k') (mxk t k t' k') = max (rk t k) (rk t' k') := by
  unfold mxt mxk
  by_cases h : rk t k < rk t' k'
  · simp only [if_pos h]; omega
  · simp only [if_neg h]; omega
theorem mx_comm {t k t' k' : Int} (h0 : rk t k ≠ -1) (h1 : rk t' k' ≠ -1) : mxt t k t' k' = mxt t' k' t k ∧ mxk t k t' k' = mxk t' k' t k := by
  have n0 := @rk_neg t k
  have n1 := @rk_neg t' k'
  refine rk_inj ?_ ?_
  · rw [mx_rk, mx_rk]; omega
  · rw [mx_rk]; omega
theorem mx_assoc {t0 k0 t1 k1 t2 k2 : Int} (h0 : rk t0 k0 ≠ -1) (h1 : rk t1 k1 ≠ -1) (h2 : rk t2 k2 ≠ -1) : mxt (mxt t0 k0 t1 k1) (mxk t0 k0 t1 k1) t2 k2 = mxt t0 k0 (mxt t1 k1 t2 k2) (mxk t1 k1 t2 k2) ∧ mxk (mxt t0 k0 t1 k1) (mxk t0 k0 t1 k1) t2 k2 = mxk t0 k0 (mxt t1 k1 t2 k2) (mxk t1 k1 t2 k2) := by
  have n0 := @rk_neg t0 k0
  have n1 := @rk_neg t1 k1
  have n2 := @rk_neg t2 k2
  refine rk_inj ?_ ?_
  · simp only [mx_rk]; omega
  · simp only [mx_rk]; omega
set_option maxHeartbeats 8000000 in
set_option maxRecDepth 100000 in
theorem walk (o0 t0 k0 : Int) (wo0 : (Lit.int .i64 o0).wf = true) (wt0 : (Lit.int .i64 t0).wf = true) (wk0 : (Lit.int .i64 k0).wf = true) (o1 t1 k1 : Int) (wo1 : (Lit.int .i64 o1).wf = true) (wt1 : (Lit.int .i64 t1).wf = true) (wk1 : (Lit.int .i64 k1).wf = true) (o2 t2 k2 : Int) (wo2 : (Lit.int .i64 o2).wf = true) (wt2 : (Lit.int .i64 t2).wf = true) (wk2 : (Lit.int .i64 k2).wf = true) (w : World) :
    Calls Try.prog 3 #[nt o0 t0 k0, nt o1 t1 k1, nt o2 t2 k2] w fun e w' => e = .returned (.bool true) ∧ Below w.heap.size w w' := by
  have hmx : Try.prog.follows .mixedOrders = true := by kernel_rfl
  have hal := alive_any
  have hj0 : JL w [(w.heap.size, o0, t0, k0), (w.heap.size + 1, o1, t1, k1), (w.heap.size + 2, o2, t2, k2)] (((w.alloc (.cells #[.int .i64 o0, .int .i64 t0, .int .i64 k0] 23)).alloc (.cells #[.int .i64 o1, .int .i64 t1, .int .i64 k1] 23)).alloc (.cells #[.int .i64 o2, .int .i64 t2, .int .i64 k2] 23)) := by simpa using (((JL.nil w).new o0 t0 k0).new o1 t1 k1).new o2 t2 k2
  have hr0 := rank_any o0 t0 k0
  have hr1 := rank_any o0 t1 k1
  have hr2 := rank_any o0 t2 k2
  have n0 := @rk_neg t0 k0
  have n1 := @rk_neg t1 k1
  have n2 := @rk_neg t2 k2
  by_cases h0 : rk t0 k0 = -1
  · have hM := max_any o0 t0 k0 o0 t1 k1
    rw [mxV, if_neg (by simp [rv, h0])] at hM
    rw [h0] at hr0
    clear h0 n0 n1 n2 hr1 hr2
    unfold nt at hr0 hM
    go_enter Try.func3, Try.ntmps3
    unfold nt
    go_wp2
    rename_i Q0 K0 hK
    refine wp_region_any hmx ?_
    refine wpAny_tabG (G := (Unit)) (fun g i__ => ([(.pointer (some ⟨w.heap.size, 0, none⟩)), (.int .i64 o0), (.pointer (some ⟨w.heap.size, 0, none⟩)), (.int .i64 o0), (.pointer (some ⟨w.heap.size + 1, 0, none⟩)), undef, (.pointer (some ⟨w.heap.size + 2, 0, none⟩)), undef] : List Value).getD i__ undef) (fun _ d W => JP w o0 t0 k0 o1 t1 k1 o2 t2 k2 (d 5) (d 7) W) (by kernel_rfl) (()) (show JP w o0 t0 k0 o1 t1 k1 o2 t2 k2 false false _ from hj0.carry (Below.refl _ _).drew) ?step1 ?fin1
    case step1 =>
      intro i o ho
      have hi : i < 8 := getElem?_lt ho
      match i, hi, ho with
      | 0, _, ho =>
        cases ho
        refine stepG_of (fun g d hdep => ?_)
        exact step_fieldAddr rfl trivial _ _ _ _ rfl rfl (fun w hw => field_n0 w _)
      | 1, _, ho =>
        cases ho
        refine stepG_of (fun g d hdep => ?_)
        exact step_load rfl trivial _ _ _ rfl rfl (fun w hw => load_n0 hw.l0)
      | 2, _, ho =>
        cases ho
        refine stepG_of (fun g d hdep => ?_)
        exact step_fieldAddr rfl trivial _ _ _ _ rfl rfl (fun w hw => field_n0 w _)
      | 3, _, ho =>
        cases ho
        refine stepG_of (fun g d hdep => ?_)
        exact step_load rfl trivial _ _ _ rfl rfl (fun w hw => load_n0 hw.l0)
      | 4, _, ho =>
        cases ho
        refine stepG_of (fun g d hdep => ?_)
        exact step_fieldAddr rfl trivial _ _ _ _ rfl rfl (fun w hw => field_n0 w _)
      | 5, _, ho =>
        cases ho
        refine stepG_of (fun g d hdep => ?_)
        exact step_store rfl trivial rfl _ _ _ _ _ rfl rfl rfl (fun W hw => hw.st5)
      | 6, _, ho =>
        cases ho
        refine stepG_of (fun g d hdep => ?_)
        exact step_fieldAddr rfl trivial _ _ _ _ rfl rfl (fun w hw => field_n0 w _)
      | 7, _, ho =>
        cases ho
        refine stepG_of (fun g d hdep => ?_)
        exact step_store rfl trivial rfl _ _ _ _ _ rfl rfl rfl (fun W hw => hw.st7)
    intro g d W hall hW
    first | refine hK _ _ ?_ | refine (‹∀ (a : Act) (w : World), Code.wp Try.prog _ _ a w → _›) _ _ ?_ | skip
    simp only [finL, List.getD_cons_zero, List.getD_cons_succ, Nat.zero_add, Nat.reduceAdd, List.setIfInBounds_toArray, List.set_cons_zero, List.set_cons_succ]
    rw [hall 5 (by decide), hall 7 (by decide)] at hW
    replace hW : JL w [(w.heap.size, o0, t0, k0), (w.heap.size + 1, o0, t1, k1), (w.heap.size + 2, o0, t2, k2)] W := hW
    clear hK hj0 hall
    have q0_0a := (hW.get 0 rfl).c0; have q0_0b := (hW.get 0 rfl).c1; have q0_0c := (hW.get 0 rfl).c2; have q0_0l := (hW.get 0 rfl).lt; have q0_1a := (hW.get 1 rfl).c0; have q0_1b := (hW.get 1 rfl).c1; have q0_1c := (hW.get 1 rfl).c2; have q0_1l := (hW.get 1 rfl).lt; have q0_2a := (hW.get 2 rfl).c0; have q0_2b := (hW.get 2 rfl).c1; have q0_2c := (hW.get 2 rfl).c2; have q0_2l := (hW.get 2 rfl).lt
    go_wp2_with (first | (go_at_call 8; (with_reducible refine (hr0 _).mono ?_); rintro e u1 ⟨rfl, hb1⟩; have hj1 : JL w [(w.heap.size, o0, t0, k0), (w.heap.size + 1, o0, t1, k1), (w.heap.size + 2, o0, t2, k2)] u1 := hW.carry hb1; clear q0_0a q0_0b q0_0c q0_0l q0_1a q0_1b q0_1c q0_1l q0_2a q0_2b q0_2c q0_2l; have q1_0a := (hj1.get 0 rfl).c0; have q1_0b := (hj1.get 0 rfl).c1; have q1_0c := (hj1.get 0 rfl).c2; have q1_0l := (hj1.get 0 rfl).lt; have q1_1a := (hj1.get 1 rfl).c0; have q1_1b := (hj1.get 1 rfl).c1; have q1_1c := (hj1.get 1 rfl).c2; have q1_1l := (hj1.get 1 rfl).lt; have q1_2a := (hj1.get 2 rfl).c0; have q1_2b := (hj1.get 2 rfl).c1; have q1_2c := (hj1.get 2 rfl).c2; have q1_2l := (hj1.get 2 rfl).lt) | (go_at_call 9; (with_reducible refine (hM _).mono ?_); rintro e u2 ⟨rfl, hb2⟩; have hc2 : JL w [(w.heap.size, o0, t0, k0), (w.heap.size + 1, o0, t1, k1), (w.heap.size + 2, o0, t2, k2)] u2 := hj1.carry hb2; have hj2 : JL w [(w.heap.size, o0, t0, k0), (w.heap.size + 1, o0, t1, k1), (w.heap.size + 2, o0, t2, k2), (u2.heap.size, 0, 0, 0)] (u2.alloc (.cells #[.int .i64 0, .int .i64 0, .int .i64 0] 23)) := (by simpa using hc2.new 0 0 0); clear q1_0a q1_0b q1_0c q1_0l q1_1a q1_1b q1_1c q1_1l q1_2a q1_2b q1_2c q1_2l; have q2_0a := (hc2.get 0 rfl).c0; have q2_0b := (hc2.get 0 rfl).c1; have q2_0c := (hc2.get 0 rfl).c2; have q2_0l := (hc2.get 0 rfl).lt; have q2_1a := (hc2.get 1 rfl).c0; have q2_1b := (hc2.get 1 rfl).c1; have q2_1c := (hc2.get 1 rfl).c2; have q2_1l := (hc2.get 1 rfl).lt; have q2_2a := (hc2.get 2 rfl).c0; have q2_2b := (hc2.get 2 rfl).c1; have q2_2c := (hc2.get 2 rfl).c2; have q2_2l := (hc2.get 2 rfl).lt) | (go_at_call 10; (with_reducible refine (hal _).mono ?_); rintro e u3 ⟨rfl, hb3⟩; have hj3 : JL w [(w.heap.size, o0, t0, k0), (w.heap.size + 1, o0, t1, k1), (w.heap.size + 2, o0, t2, k2), (u2.heap.size, 0, 0, 0)] u3 := hj2.carry hb3; clear q2_0a q2_0b q2_0c q2_0l q2_1a q2_1b q2_1c q2_1l q2_2a q2_2b q2_2c q2_2l; have q3_0a := (hj3.get 0 rfl).c0; have q3_0b := (hj3.get 0 rfl).c1; have q3_0c := (hj3.get 0 rfl).c2; have q3_0l := (hj3.get 0 rfl).lt; have q3_1a := (hj3.get 1 rfl).c0; have q3_1b := (hj3.get 1 rfl).c1; have q3_1c := (hj3.get 1 rfl).c2; have q3_1l := (hj3.get 1 rfl).lt; have q3_2a := (hj3.get 2 rfl).c0; have q3_2b := (hj3.get 2 rfl).c1; have q3_2c := (hj3.get 2 rfl).c2; have q3_2l := (hj3.get 2 rfl).lt; have q3_3a := (hj3.get 3 rfl).c0; have q3_3b := (hj3.get 3 rfl).c1; have q3_3c := (hj3.get 3 rfl).c2; have q3_3l := (hj3.get 3 rfl).lt) | (go_at_call 8; (with_reducible refine (hr0 _).mono ?_); rintro e u4 ⟨rfl, hb4⟩; have hj4 : JL w [(w.heap.size, o0, t0, k0), (w.heap.size + 1, o0, t1, k1), (w.heap.size + 2, o0, t2, k2), (u2.heap.size, 0, 0, 0)] u4 := hj3.carry hb4; clear q3_0a q3_0b q3_0c q3_0l q3_1a q3_1b q3_1c q3_1l q3_2a q3_2b q3_2c q3_2l q3_3a q3_3b q3_3c q3_3l; have q4_0a := (hj4.get 0 rfl).c0; have q4_0b := (hj4.get 0 rfl).c1; have q4_0c := (hj4.get 0 rfl).c2; have q4_0l := (hj4.get 0 rfl).lt; have q4_1a := (hj4.get 1 rfl).c0; have q4_1b := (hj4.get 1 rfl).c1; have q4_1c := (hj4.get 1 rfl).c2; have q4_1l := (hj4.get 1 rfl).lt; have q4_2a := (hj4.get 2 rfl).c0; have q4_2b := (hj4.get 2 rfl).c1; have q4_2c := (hj4.get 2 rfl).c2; have q4_2l := (hj4.get 2 rfl).lt; have q4_3a := (hj4.get 3 rfl).c0; have q4_3b := (hj4.get 3 rfl).c1; have q4_3c := (hj4.get 3 rfl).c2; have q4_3l := (hj4.get 3 rfl).lt))
    go_ret
    exact ⟨rfl, hj4.below⟩
  have g0 : 0 ≤ rk t0 k0 := by omega
  by_cases h1 : rk t1 k1 = -1
  · have hM := max_any o0 t0 k0 o0 t1 k1
    rw [mxV, if_neg (by simp [rv, h1])] at hM
    rw [h1] at hr1
    generalize rk t0 k0 = r0 at *
    have g0' : ¬ r0 < 0 := by omega
    clear h0 h1 n0 n1 n2 hr2
    unfold nt at hr0 hr1 hM
    go_enter Try.func3, Try.ntmps3
    unfold nt
    go_wp2
    rename_i Q0 K0 hK
    refine wp_region_any hmx ?_
    refine wpAny_tabG (G := (Unit)) (fun g i__ => ([(.pointer (some ⟨w.heap.size, 0, none⟩)), (.int .i64 o0), (.pointer (some ⟨w.heap.size, 0, none⟩)), (.int .i64 o0), (.pointer (some ⟨w.heap.size + 1, 0, none⟩)), undef, (.pointer (some ⟨w.heap.size + 2, 0, none⟩)), undef] : List Value).getD i__ undef) (fun _ d W => JP w o0 t0 k0 o1 t1 k1 o2 t2 k2 (d 5) (d 7) W) (by kernel_rfl) (()) (show JP w o0 t0 k0 o1 t1 k1 o2 t2 k2 false false _ from hj0.carry (Below.refl _ _).drew) ?step2 ?fin2
    case step2 =>
      intro i o ho
      have hi : i < 8 := getElem?_lt ho
      match i, hi, ho with
      | 0, _, ho =>
        cases ho
        refine stepG_of (fun g d hdep => ?_)
        exact step_fieldAddr rfl trivial _ _ _ _ rfl rfl (fun w hw => field_n0 w _)
      | 1, _, ho =>
        cases ho
        refine stepG_of (fun g d hdep => ?_)
        exact step_load rfl trivial _ _ _ rfl rfl (fun w hw => load_n0 hw.l0)
      | 2, _, ho =>
        cases ho
        refine stepG_of (fun g d hdep => ?_)
        exact step_fieldAddr rfl trivial _ _ _ _ rfl rfl (fun w hw => field_n0 w _)
      | 3, _, ho =>
        cases ho
        refine stepG_of (fun g d hdep => ?_)
        exact step_load rfl trivial _ _ _ rfl rfl (fun w hw => load_n0 hw.l0)
      | 4, _, ho =>
        cases ho
        refine stepG_of (fun g d hdep => ?_)
        exact step_fieldAddr rfl trivial _ _ _ _ rfl rfl (fun w hw => field_n0 w _)
      | 5, _, ho =>
        cases ho
        refine stepG_of (fun g d hdep => ?_)
        exact step_store rfl trivial rfl _ _ _ _ _ rfl rfl rfl (fun W hw => hw.st5)
      | 6, _, ho =>
        cases ho
        refine stepG_of (fun g d hdep => ?_)
        exact step_fieldAddr rfl trivial _ _ _ _ rfl rfl (fun w hw => field_n0 w _)
      | 7, _, ho =>
        cases ho
        refine stepG_of (fun g d hdep => ?_)
        exact step_store rfl trivial rfl _ _ _ _ _ rfl rfl rfl (fun W hw => hw.st7)
    intro g d W hall hW
    first | refine hK _ _ ?_ | refine (‹∀ (a : Act) (w : World), Code.wp Try.prog _ _ a w → _›) _ _ ?_ | skip
    simp only [finL, List.getD_cons_zero, List.getD_cons_succ, Nat.zero_add, Nat.reduceAdd, List.setIfInBounds_toArray, List.set_cons_zero, List.set_cons_succ]
    rw [hall 5 (by decide), hall 7 (by decide)] at hW
    replace hW : JL w [(w.heap.size, o0, t0, k0), (w.heap.size + 1, o0, t1, k1), (w.heap.size + 2, o0, t2, k2)] W := hW
    clear hK hj0 hall
    have q0_0a := (hW.get 0 rfl).c0; have q0_0b := (hW.get 0 rfl).c1; have q0_0c := (hW.get 0 rfl).c2; have q0_0l := (hW.get 0 rfl).lt; have q0_1a := (hW.get 1 rfl).c0; have q0_1b := (hW.get 1 rfl).c1; have q0_1c := (hW.get 1 rfl).c2; have q0_1l := (hW.get 1 rfl).lt; have q0_2a := (hW.get 2 rfl).c0; have q0_2b := (hW.get 2 rfl).c1; have q0_2c := (hW.get 2 rfl).c2; have q0_2l := (hW.get 2 rfl).lt
    go_wp2_with (first | (go_at_call 8; (with_reducible refine (hr0 _).mono ?_); rintro e u1 ⟨rfl, hb1⟩; have hj1 : JL w [(w.heap.size, o0, t0, k0), (w.heap.size + 1, o0, t1, k1), (w.heap.size + 2, o0, t2, k2)] u1 := hW.carry hb1; clear q0_0a q0_0b q0_0c q0_0l q0_1a q0_1b q0_1c q0_1l q0_2a q0_2b q0_2c q0_2l; have q1_0a := (hj1.get 0 rfl).c0; have q1_0b := (hj1.get 0 rfl).c1; have q1_0c := (hj1.get 0 rfl).c2; have q1_0l := (hj1.get 0 rfl).lt; have q1_1a := (hj1.get 1 rfl).c0; have q1_1b := (hj1.get 1 rfl).c1; have q1_1c := (hj1.get 1 rfl).c2; have q1_1l := (hj1.get 1 rfl).lt; have q1_2a := (hj1.get 2 rfl).c0; have q1_2b := (hj1.get 2 rfl).c1; have q1_2c := (hj1.get 2 rfl).c2; have q1_2l := (hj1.get 2 rfl).lt) | (go_at_call 8; (with_reducible refine (hr1 _).mono ?_); rintro e u2 ⟨rfl, hb2⟩; have hj2 : JL w [(w.heap.size, o0, t0, k0), (w.heap.size + 1, o0, t1, k1), (w.heap.size + 2, o0, t2, k2)] u2 := hj1.carry hb2; clear q1_0a q1_0b q1_0c q1_0l q1_1a q1_1b q1_1c q1_1l q1_2a q1_2b q1_2c q1_2l; have q2_0a := (hj2.get 0 rfl).c0; have q2_0b := (hj2.get 0 rfl).c1; have q2_0c := (hj2.get 0 rfl).c2; have q2_0l := (hj2.get 0 rfl).lt; have q2_1a := (hj2.get 1 rfl).c0; have q2_1b := (hj2.get 1 rfl).c1; have q2_1c := (hj2.get 1 rfl).c2; have q2_1l := (hj2.get 1 rfl).lt; have q2_2a := (hj2.get 2 rfl).c0; have q2_2b := (hj2.get 2 rfl).c1; have q2_2c := (hj2.get 2 rfl).c2; have q2_2l := (hj2.get 2 rfl).lt) | (go_at_call 9; (with_reducible refine (hM _).mono ?_); rintro e u3 ⟨rfl, hb3⟩; have hc3 : JL w [(w.heap.size, o0, t0, k0), (w.heap.size + 1, o0, t1, k1), (w.heap.size + 2, o0, t2, k2)] u3 := hj2.carry hb3; have hj3 : JL w [(w.heap.size, o0, t0, k0), (w.heap.size + 1, o0, t1, k1), (w.heap.size + 2, o0, t2, k2), (u3.heap.size, 0, 0, 0)] (u3.alloc (.cells #[.int .i64 0, .int .i64 0, .int .i64 0] 23)) := (by simpa using hc3.new 0 0 0); clear q2_0a q2_0b q2_0c q2_0l q2_1a q2_1b q2_1c q2_1l q2_2a q2_2b q2_2c q2_2l; have q3_0a := (hc3.get 0 rfl).c0; have q3_0b := (hc3.get 0 rfl).c1; have q3_0c := (hc3.get 0 rfl).c2; have q3_0l := (hc3.get 0 rfl).lt; have q3_1a := (hc3.get 1 rfl).c0; have q3_1b := (hc3.get 1 rfl).c1; have q3_1c := (hc3.get 1 rfl).c2; have q3_1l := (hc3.get 1 rfl).lt; have q3_2a := (hc3.get 2 rfl).c0; have q3_2b := (hc3.get 2 rfl).c1; have q3_2c := (hc3.get 2 rfl).c2; have q3_2l := (hc3.get 2 rfl).lt) | (go_at_call 10; (with_reducible refine (hal _).mono ?_); rintro e u4 ⟨rfl, hb4⟩; have hj4 : JL w [(w.heap.size, o0, t0, k0), (w.heap.size + 1, o0, t1, k1), (w.heap.size + 2, o0, t2, k2), (u3.heap.size, 0, 0, 0)] u4 := hj3.carry hb4; clear q3_0a q3_0b q3_0c q3_0l q3_1a q3_1b q3_1c q3_1l q3_2a q3_2b q3_2c q3_2l; have q4_0a := (hj4.get 0 rfl).c0; have q4_0b := (hj4.get 0 rfl).c1; have q4_0c := (hj4.get 0 rfl).c2; have q4_0l := (hj4.get 0 rfl).lt; have q4_1a := (hj4.get 1 rfl).c0; have q4_1b := (hj4.get 1 rfl).c1; have q4_1c := (hj4.get 1 rfl).c2; have q4_1l := (hj4.get 1 rfl).lt; have q4_2a := (hj4.get 2 rfl).c0; have q4_2b := (hj4.get 2 rfl).c1; have q4_2c := (hj4.get 2 rfl).c2; have q4_2l := (hj4.get 2 rfl).lt; have q4_3a := (hj4.get 3 rfl).c0; have q4_3b := (hj4.get 3 rfl).c1; have q4_3c := (hj4.get 3 rfl).c2; have q4_3l := (hj4.get 3 rfl).lt) | (go_at_call 8; (with_reducible refine (hr0 _).mono ?_); rintro e u5 ⟨rfl, hb5⟩; have hj5 : JL w [(w.heap.size, o0, t0, k0), (w.heap.size + 1, o0, t1, k1), (w.heap.size + 2, o0, t2, k2), (u3.heap.size, 0, 0, 0)] u5 := hj4.carry hb5; clear q4_0a q4_0b q4_0c q4_0l q4_1a q4_1b q4_1c q4_1l q4_2a q4_2b q4_2c q4_2l q4_3a q4_3b q4_3c q4_3l; have q5_0a := (hj5.get 0 rfl).c0; have q5_0b := (hj5.get 0 rfl).c1; have q5_0c := (hj5.get 0 rfl).c2; have q5_0l := (hj5.get 0 rfl).lt; have q5_1a := (hj5.get 1 rfl).c0; have q5_1b := (hj5.get 1 rfl).c1; have q5_1c := (hj5.get 1 rfl).c2; have q5_1l := (hj5.get 1 rfl).lt; have q5_2a := (hj5.get 2 rfl).c0; have q5_2b := (hj5.get 2 rfl).c1; have q5_2c := (hj5.get 2 rfl).c2; have q5_2l := (hj5.get 2 rfl).lt; have q5_3a := (hj5.get 3 rfl).c0; have q5_3b := (hj5.get 3 rfl).c1; have q5_3c := (hj5.get 3 rfl).c2; have q5_3l := (hj5.get 3 rfl).lt) | (go_at_call 8; (with_reducible refine (hr1 _).mono ?_); rintro e u6 ⟨rfl, hb6⟩; have hj6 : JL w [(w.heap.size, o0, t0, k0), (w.heap.size + 1, o0, t1, k1), (w.heap.size + 2, o0, t2, k2), (u3.heap.size, 0, 0, 0)] u6 := hj5.carry hb6; clear q5_0a q5_0b q5_0c q5_0l q5_1a q5_1b q5_1c q5_1l q5_2a q5_2b q5_2c q5_2l q5_3a q5_3b q5_3c q5_3l; have q6_0a := (hj6.get 0 rfl).c0; have q6_0b := (hj6.get 0 rfl).c1; have q6_0c := (hj6.get 0 rfl).c2; have q6_0l := (hj6.get 0 rfl).lt; have q6_1a := (hj6.get 1 rfl).c0; have q6_1b := (hj6.get 1 rfl).c1; have q6_1c := (hj6.get 1 rfl).c2; have q6_1l := (hj6.get 1 rfl).lt; have q6_2a := (hj6.get 2 rfl).c0; have q6_2b := (hj6.get 2 rfl).c1; have q6_2c := (hj6.get 2 rfl).c2; have q6_2l := (hj6.get 2 rfl).lt; have q6_3a := (hj6.get 3 rfl).c0; have q6_3b := (hj6.get 3 rfl).c1; have q6_3c := (hj6.get 3 rfl).c2; have q6_3l := (hj6.get 3 rfl).lt))
    go_ret
    exact ⟨rfl, hj6.below⟩
  have g1 : 0 ≤ rk t1 k1 := by omega
  by_cases h2 : rk t2 k2 = -1
  · have hM := max_any o0 t0 k0 o0 t1 k1
    rw [mxV, if_pos (by simp [rv, h0, h1])] at hM
    rw [h2] at hr2
    generalize mxt t0 k0 t1 k1 = xt at *
    generalize mxk t0 k0 t1 k1 = xk at *
    generalize rk t0 k0 = r0 at *
    generalize rk t1 k1 = r1 at *
    have g0' : ¬ r0 < 0 := by omega
    have g1' : ¬ r1 < 0 := by omega
    clear h0 h1 h2 n0 n1 n2
    unfold nt at hr0 hr1 hr2 hM
    go_enter Try.func3, Try.ntmps3
    unfold nt
    go_wp2
    rename_i Q0 K0 hK
    refine wp_region_any hmx ?_
    refine wpAny_tabG (G := (Unit)) (fun g i__ => ([(.pointer (some ⟨w.heap.size, 0, none⟩)), (.int .i64 o0), (.pointer (some ⟨w.heap.size, 0, none⟩)), (.int .i64 o0), (.pointer (some ⟨w.heap.size + 1, 0, none⟩)), undef, (.pointer (some ⟨w.heap.size + 2, 0, none⟩)), undef] : List Value).getD i__ undef) (fun _ d W => JP w o0 t0 k0 o1 t1 k1 o2 t2 k2 (d 5) (d 7) W) (by kernel_rfl) (()) (show JP w o0 t0 k0 o1 t1 k1 o2 t2 k2 false false _ from hj0.carry (Below.refl _ _).drew) ?step3 ?fin3
    case step3 =>
      intro i o ho
      have hi : i < 8 := getElem?_lt ho
      match i, hi, ho with
      | 0, _, ho =>
        cases ho
        refine stepG_of (fun g d hdep => ?_)
        exact step_fieldAddr rfl trivial _ _ _ _ rfl rfl (fun w hw => field_n0 w _)
      | 1, _, ho =>
        cases ho
        refine stepG_of (fun g d hdep => ?_)
        exact step_load rfl trivial _ _ _ rfl rfl (fun w hw => load_n0 hw.l0)
      | 2, _, ho =>
        cases ho
        refine stepG_of (fun g d hdep => ?_)
        exact step_fieldAddr rfl trivial _ _ _ _ rfl rfl (fun w hw => field_n0 w _)
      | 3, _, ho =>
        cases ho
        refine stepG_of (fun g d hdep => ?_)
        exact step_load rfl trivial _ _ _ rfl rfl (fun w hw => load_n0 hw.l0)
      | 4, _, ho =>
        cases ho
        refine stepG_of (fun g d hdep => ?_)
        exact step_fieldAddr rfl trivial _ _ _ _ rfl rfl (fun w hw => field_n0 w _)
      | 5, _, ho =>
        cases ho
        refine stepG_of (fun g d hdep => ?_)
        exact step_store rfl trivial rfl _ _ _ _ _ rfl rfl rfl (fun W hw => hw.st5)
      | 6, _, ho =>
        cases ho
        refine stepG_of (fun g d hdep => ?_)
        exact step_fieldAddr rfl trivial _ _ _ _ rfl rfl (fun w hw => field_n0 w _)
      | 7, _, ho =>
        cases ho
        refine stepG_of (fun g d hdep => ?_)
        exact step_store rfl trivial rfl _ _ _ _ _ rfl rfl rfl (fun W hw => hw.st7)
    intro g d W hall hW
    first | refine hK _ _ ?_ | refine (‹∀ (a : Act) (w : World), Code.wp Try.prog _ _ a w → _›) _ _ ?_ | skip
    simp only [finL, List.getD_cons_zero, List.getD_cons_succ, Nat.zero_add, Nat.reduceAdd, List.setIfInBounds_toArray, List.set_cons_zero, List.set_cons_succ]
    rw [hall 5 (by decide), hall 7 (by decide)] at hW
    replace hW : JL w [(w.heap.size, o0, t0, k0), (w.heap.size + 1, o0, t1, k1), (w.heap.size + 2, o0, t2, k2)] W := hW
    clear hK hj0 hall
    have q0_0a := (hW.get 0 rfl).c0; have q0_0b := (hW.get 0 rfl).c1; have q0_0c := (hW.get 0 rfl).c2; have q0_0l := (hW.get 0 rfl).lt; have q0_1a := (hW.get 1 rfl).c0; have q0_1b := (hW.get 1 rfl).c1; have q0_1c := (hW.get 1 rfl).c2; have q0_1l := (hW.get 1 rfl).lt; have q0_2a := (hW.get 2 rfl).c0; have q0_2b := (hW.get 2 rfl).c1; have q0_2c := (hW.get 2 rfl).c2; have q0_2l := (hW.get 2 rfl).lt
    go_wp2_with (first | (go_at_call 8; (with_reducible refine (hr0 _).mono ?_); rintro e u1 ⟨rfl, hb1⟩; have hj1 : JL w [(w.heap.size, o0, t0, k0), (w.heap.size + 1, o0, t1, k1), (w.heap.size + 2, o0, t2, k2)] u1 := hW.carry hb1; clear q0_0a q0_0b q0_0c q0_0l q0_1a q0_1b q0_1c q0_1l q0_2a q0_2b q0_2c q0_2l; have q1_0a := (hj1.get 0 rfl).c0; have q1_0b := (hj1.get 0 rfl).c1; have q1_0c := (hj1.get 0 rfl).c2; have q1_0l := (hj1.get 0 rfl).lt; have q1_1a := (hj1.get 1 rfl).c0; have q1_1b := (hj1.get 1 rfl).c1; have q1_1c := (hj1.get 1 rfl).c2; have q1_1l := (hj1.get 1 rfl).lt; have q1_2a := (hj1.get 2 rfl).c0; have q1_2b := (hj1.get 2 rfl).c1; have q1_2c := (hj1.get 2 rfl).c2; have q1_2l := (hj1.get 2 rfl).lt) | (go_at_call 8; (with_reducible refine (hr1 _).mono ?_); rintro e u2 ⟨rfl, hb2⟩; have hj2 : JL w [(w.heap.size, o0, t0, k0), (w.heap.size + 1, o0, t1, k1), (w.heap.size + 2, o0, t2, k2)] u2 := hj1.carry hb2; clear q1_0a q1_0b q1_0c q1_0l q1_1a q1_1b q1_1c q1_1l q1_2a q1_2b q1_2c q1_2l; have q2_0a := (hj2.get 0 rfl).c0; have q2_0b := (hj2.get 0 rfl).c1; have q2_0c := (hj2.get 0 rfl).c2; have q2_0l := (hj2.get 0 rfl).lt; have q2_1a := (hj2.get 1 rfl).c0; have q2_1b := (hj2.get 1 rfl).c1; have q2_1c := (hj2.get 1 rfl).c2; have q2_1l := (hj2.get 1 rfl).lt; have q2_2a := (hj2.get 2 rfl).c0; have q2_2b := (hj2.get 2 rfl).c1; have q2_2c := (hj2.get 2 rfl).c2; have q2_2l := (hj2.get 2 rfl).lt) | (go_at_call 8; (with_reducible refine (hr2 _).mono ?_); rintro e u3 ⟨rfl, hb3⟩; have hj3 : JL w [(w.heap.size, o0, t0, k0), (w.heap.size + 1, o0, t1, k1), (w.heap.size + 2, o0, t2, k2)] u3 := hj2.carry hb3; clear q2_0a q2_0b q2_0c q2_0l q2_1a q2_1b q2_1c q2_1l q2_2a q2_2b q2_2c q2_2l; have q3_0a := (hj3.get 0 rfl).c0; have q3_0b := (hj3.get 0 rfl).c1; have q3_0c := (hj3.get 0 rfl).c2; have q3_0l := (hj3.get 0 rfl).lt; have q3_1a := (hj3.get 1 rfl).c0; have q3_1b := (hj3.get 1 rfl).c1; have q3_1c := (hj3.get 1 rfl).c2; have q3_1l := (hj3.get 1 rfl).lt; have q3_2a := (hj3.get 2 rfl).c0; have q3_2b := (hj3.get 2 rfl).c1; have q3_2c := (hj3.get 2 rfl).c2; have q3_2l := (hj3.get 2 rfl).lt) | (go_at_call 9; (with_reducible refine (hM _).mono ?_); rintro e u4 ⟨rfl, hb4⟩; have hc4 : JL w [(w.heap.size, o0, t0, k0), (w.heap.size + 1, o0, t1, k1), (w.heap.size + 2, o0, t2, k2)] u4 := hj3.carry hb4; have hj4 : JL w [(w.heap.size, o0, t0, k0), (w.heap.size + 1, o0, t1, k1), (w.heap.size + 2, o0, t2, k2), (u4.heap.size, o0, xt, xk)] (u4.alloc (.cells #[.int .i64 o0, .int .i64 xt, .int .i64 xk] 23)) := (by simpa using hc4.new o0 xt xk); clear q3_0a q3_0b q3_0c q3_0l q3_1a q3_1b q3_1c q3_1l q3_2a q3_2b q3_2c q3_2l; have q4_0a := (hc4.get 0 rfl).c0; have q4_0b := (hc4.get 0 rfl).c1; have q4_0c := (hc4.get 0 rfl).c2; have q4_0l := (hc4.get 0 rfl).lt; have q4_1a := (hc4.get 1 rfl).c0; have q4_1b := (hc4.get 1 rfl).c1; have q4_1c := (hc4.get 1 rfl).c2; have q4_1l := (hc4.get 1 rfl).lt; have q4_2a := (hc4.get 2 rfl).c0; have q4_2b := (hc4.get 2 rfl).c1; have q4_2c := (hc4.get 2 rfl).c2; have q4_2l := (hc4.get 2 rfl).lt) | (go_at_call 10; (with_reducible refine (hal _).mono ?_); rintro e u5 ⟨rfl, hb5⟩; have hj5 : JL w [(w.heap.size, o0, t0, k0), (w.heap.size + 1, o0, t1, k1), (w.heap.size + 2, o0, t2, k2), (u4.heap.size, o0, xt, xk)] u5 := hj4.carry hb5; clear q4_0a q4_0b q4_0c q4_0l q4_1a q4_1b q4_1c q4_1l q4_2a q4_2b q4_2c q4_2l; have q5_0a := (hj5.get 0 rfl).c0; have q5_0b := (hj5.get 0 rfl).c1; have q5_0c := (hj5.get 0 rfl).c2; have q5_0l := (hj5.get 0 rfl).lt; have q5_1a := (hj5.get 1 rfl).c0; have q5_1b := (hj5.get 1 rfl).c1; have q5_1c := (hj5.get 1 rfl).c2; have q5_1l := (hj5.get 1 rfl).lt; have q5_2a := (hj5.get 2 rfl).c0; have q5_2b := (hj5.get 2 rfl).c1; have q5_2c := (hj5.get 2 rfl).c2; have q5_2l := (hj5.get 2 rfl).lt; have q5_3a := (hj5.get 3 rfl).c0; have q5_3b := (hj5.get 3 rfl).c1; have q5_3c := (hj5.get 3 rfl).c2; have q5_3l := (hj5.get 3 rfl).lt) | (go_at_call 8; (with_reducible refine (hr0 _).mono ?_); rintro e u6 ⟨rfl, hb6⟩; have hj6 : JL w [(w.heap.size, o0, t0, k0), (w.heap.size + 1, o0, t1, k1), (w.heap.size + 2, o0, t2, k2), (u4.heap.size, o0, xt, xk)] u6 := hj5.carry hb6; clear q5_0a q5_0b q5_0c q5_0l q5_1a q5_1b q5_1c q5_1l q5_2a q5_2b q5_2c q5_2l q5_3a q5_3b q5_3c q5_3l; have q6_0a := (hj6.get 0 rfl).c0; have q6_0b := (hj6.get 0 rfl).c1; have q6_0c := (hj6.get 0 rfl).c2; have q6_0l := (hj6.get 0 rfl).lt; have q6_1a := (hj6.get 1 rfl).c0; have q6_1b := (hj6.get 1 rfl).c1; have q6_1c := (hj6.get 1 rfl).c2; have q6_1l := (hj6.get 1 rfl).lt; have q6_2a := (hj6.get 2 rfl).c0; have q6_2b := (hj6.get 2 rfl).c1; have q6_2c := (hj6.get 2 rfl).c2; have q6_2l := (hj6.get 2 rfl).lt; have q6_3a := (hj6.get 3 rfl).c0; have q6_3b := (hj6.get 3 rfl).c1; have q6_3c := (hj6.get 3 rfl).c2; have q6_3l := (hj6.get 3 rfl).lt) | (go_at_call 8; (with_reducible refine (hr1 _).mono ?_); rintro e u7 ⟨rfl, hb7⟩; have hj7 : JL w [(w.heap.size, o0, t0, k0), (w.heap.size + 1, o0, t1, k1), (w.heap.size + 2, o0, t2, k2), (u4.heap.size, o0, xt, xk)] u7 := hj6.carry hb7; clear q6_0a q6_0b q6_0c q6_0l q6_1a q6_1b q6_1c q6_1l q6_2a q6_2b q6_2c q6_2l q6_3a q6_3b q6_3c q6_3l; have q7_0a := (hj7.get 0 rfl).c0; have q7_0b := (hj7.get 0 rfl).c1; have q7_0c := (hj7.get 0 rfl).c2; have q7_0l := (hj7.get 0 rfl).lt; have q7_1a := (hj7.get 1 rfl).c0; have q7_1b := (hj7.get 1 rfl).c1; have q7_1c := (hj7.get 1 rfl).c2; have q7_1l := (hj7.get 1 rfl).lt; have q7_2a := (hj7.get 2 rfl).c0; have q7_2b := (hj7.get 2 rfl).c1; have q7_2c := (hj7.get 2 rfl).c2; have q7_2l := (hj7.get 2 rfl).lt; have q7_3a := (hj7.get 3 rfl).c0; have q7_3b := (hj7.get 3 rfl).c1; have q7_3c := (hj7.get 3 rfl).c2; have q7_3l := (hj7.get 3 rfl).lt))
    go_ret
    exact ⟨rfl, hj7.below⟩
  have g2 : 0 ≤ rk t2 k2 := by omega
  have hM1 := max_any o0 t0 k0 o0 t1 k1
  have hM2 := max_any o0 t1 k1 o0 t0 k0
  have hM3 := max_any o0 t1 k1 o0 t2 k2
  have hM4 := max_any o0 (mxt t0 k0 t1 k1) (mxk t0 k0 t1 k1) o0 t2 k2
  have hM5 := max_any o0 t0 k0 o0 (mxt t1 k1 t2 k2) (mxk t1 k1 t2 k2)
  have hM6 := max_any o0 t0 k0 o0 t0 k0
  have x01 := mx_rk t0 k0 t1 k1
  have x12 := mx_rk t1 k1 t2 k2
  rw [mxV, if_pos (by simp [rv, h0, h1])] at hM1
  rw [mxV, if_pos (by simp [rv, h0, h1]), mx_comm h1 h0 |>.1, mx_comm h1 h0 |>.2] at hM2
  rw [mxV, if_pos (by simp [rv, h1, h2])] at hM3
  rw [mxV, if_pos (by rw [rv]; refine decide_eq_true ⟨rfl, ?_, h2⟩; rw [x01]; omega)] at hM4
  rw [mxV, if_pos (by rw [rv]; refine decide_eq_true ⟨rfl, h0, ?_⟩; rw [x12]; omega), ← (mx_assoc h0 h1 h2).1, ← (mx_assoc h0 h1 h2).2] at hM5
  rw [mxV, if_pos (by simp [rv, h0]), show mxt t0 k0 t0 k0 = t0 by rw [mxt]; split <;> rfl, show mxk t0 k0 t0 k0 = k0 by rw [mxk]; split <;> rfl] at hM6
  clear x01 x12
  generalize mxt (mxt t0 k0 t1 k1) (mxk t0 k0 t1 k1) t2 k2 = ut at *
  generalize mxk (mxt t0 k0 t1 k1) (mxk t0 k0 t1 k1) t2 k2 = uk at *
  generalize mxt t0 k0 t1 k1 = xt at *
  generalize mxk t0 k0 t1 k1 = xk at *
  generalize mxt t1 k1 t2 k2 = zt at *
  generalize mxk t1 k1 t2 k2 = zk at *
  have hab := beats_any o0 t0 k0 o0 t1 k1
  have hbc := beats_any o0 t1 k1 o0 t2 k2
  have hac := beats_any o0 t0 k0 o0 t2 k2
  have hba := beats_any o0 t1 k1 o0 t0 k0
  rw [show bt o0 t0 k0 o0 t1 k1 = decide (rk t1 k1 < rk t0 k0) by simp [bt, h0, h1]] at hab
  rw [show bt o0 t1 k1 o0 t2 k2 = decide (rk t2 k2 < rk t1 k1) by simp [bt, h1, h2]] at hbc
  rw [show bt o0 t0 k0 o0 t2 k2 = decide (rk t2 k2 < rk t0 k0) by simp [bt, h0, h2]] at hac
  rw [show bt o0 t1 k1 o0 t0 k0 = decide (rk t0 k0 < rk t1 k1) by simp [bt, h0, h1]] at hba
  have hab' : rk t1 k1 = rk t0 k0 → t0 = t1 ∧ k0 = k1 := fun e => rk_inj e.symm h0
  have hne : t0 = t1 ∧ k0 = k1 → rk t1 k1 = rk t0 k0 := fun e => by rw [e.1, e.2]
  clear h0 h1 h2 n0 n1 n2
  generalize rk t0 k0 = r0 at *
  generalize rk t1 k1 = r1 at *
  generalize rk t2 k2 = r2 at *
  have p0 : ¬ r0 < 0 := by omega
  have p1 : ¬ r1 < 0 := by omega
  have p2 : ¬ r2 < 0 := by omega
  clear g0 g1 g2
  have hH : Hid (r1 = r0 → t0 = t1 ∧ k0 = k1) ∧ Hid (t0 = t1 ∧ k0 = k1 → r1 = r0) := ⟨⟨hab'⟩, ⟨hne⟩⟩
  clear hab' hne
  unfold nt at hr0 hr1 hr2 hM1 hM2 hM3 hM4 hM5 hM6 hab hbc hac hba
  have hM6 := hM6
  · skip
    go_enter Try.func3, Try.ntmps3
    unfold nt
    go_wp2
    rename_i Q0 K0 hK
    refine wp_region_any hmx ?_
    refine wpAny_tabG (G := (Unit)) (fun g i__ => ([(.pointer (some ⟨w.heap.size, 0, none⟩)), (.int .i64 o0), (.pointer (some ⟨w.heap.size, 0, none⟩)), (.int .i64 o0), (.pointer (some ⟨w.heap.size + 1, 0, none⟩)), undef, (.pointer (some ⟨w.heap.size + 2, 0, none⟩)), undef] : List Value).getD i__ undef) (fun _ d W => JP w o0 t0 k0 o1 t1 k1 o2 t2 k2 (d 5) (d 7) W) (by kernel_rfl) (()) (show JP w o0 t0 k0 o1 t1 k1 o2 t2 k2 false false _ from hj0.carry (Below.refl _ _).drew) ?step4 ?fin4
    case step4 =>
      intro i o ho
      have hi : i < 8 := getElem?_lt ho
      match i, hi, ho with
      | 0, _, ho =>
        cases ho
        refine stepG_of (fun g d hdep => ?_)
        exact step_fieldAddr rfl trivial _ _ _ _ rfl rfl (fun w hw => field_n0 w _)
      | 1, _, ho =>
        cases ho
        refine stepG_of (fun g d hdep => ?_)
        exact step_load rfl trivial _ _ _ rfl rfl (fun w hw => load_n0 hw.l0)
      | 2, _, ho =>
        cases ho
        refine stepG_of (fun g d hdep => ?_)
        exact step_fieldAddr rfl trivial _ _ _ _ rfl rfl (fun w hw => field_n0 w _)
      | 3, _, ho =>
        cases ho
        refine stepG_of (fun g d hdep => ?_)
        exact step_load rfl trivial _ _ _ rfl rfl (fun w hw => load_n0 hw.l0)
      | 4, _, ho =>
        cases ho
        refine stepG_of (fun g d hdep => ?_)
        exact step_fieldAddr rfl trivial _ _ _ _ rfl rfl (fun w hw => field_n0 w _)
      | 5, _, ho =>
        cases ho
        refine stepG_of (fun g d hdep => ?_)
        exact step_store rfl trivial rfl _ _ _ _ _ rfl rfl rfl (fun W hw => hw.st5)
      | 6, _, ho =>
        cases ho
        refine stepG_of (fun g d hdep => ?_)
        exact step_fieldAddr rfl trivial _ _ _ _ rfl rfl (fun w hw => field_n0 w _)
      | 7, _, ho =>
        cases ho
        refine stepG_of (fun g d hdep => ?_)
        exact step_store rfl trivial rfl _ _ _ _ _ rfl rfl rfl (fun W hw => hw.st7)
    intro g d W hall hW
    first | refine hK _ _ ?_ | refine (‹∀ (a : Act) (w : World), Code.wp Try.prog _ _ a w → _›) _ _ ?_ | skip
    simp only [finL, List.getD_cons_zero, List.getD_cons_succ, Nat.zero_add, Nat.reduceAdd, List.setIfInBounds_toArray, List.set_cons_zero, List.set_cons_succ]
    rw [hall 5 (by decide), hall 7 (by decide)] at hW
    replace hW : JL w [(w.heap.size, o0, t0, k0), (w.heap.size + 1, o0, t1, k1), (w.heap.size + 2, o0, t2, k2)] W := hW
    clear hK hj0 hall
    have q0_0a := (hW.get 0 rfl).c0; have q0_0b := (hW.get 0 rfl).c1; have q0_0c := (hW.get 0 rfl).c2; have q0_0l := (hW.get 0 rfl).lt; have q0_1a := (hW.get 1 rfl).c0; have q0_1b := (hW.get 1 rfl).c1; have q0_1c := (hW.get 1 rfl).c2; have q0_1l := (hW.get 1 rfl).lt; have q0_2a := (hW.get 2 rfl).c0; have q0_2b := (hW.get 2 rfl).c1; have q0_2c := (hW.get 2 rfl).c2; have q0_2l := (hW.get 2 rfl).lt
    go_wp2_with (first | (go_at_call 8; (with_reducible refine (hr0 _).mono ?_); rintro e u1 ⟨rfl, hb1⟩; have hj1 : JL w [(w.heap.size, o0, t0, k0), (w.heap.size + 1, o0, t1, k1), (w.heap.size + 2, o0, t2, k2)] u1 := hW.carry hb1; clear q0_0a q0_0b q0_0c q0_0l q0_1a q0_1b q0_1c q0_1l q0_2a q0_2b q0_2c q0_2l; have q1_0a := (hj1.get 0 rfl).c0; have q1_0b := (hj1.get 0 rfl).c1; have q1_0c := (hj1.get 0 rfl).c2; have q1_0l := (hj1.get 0 rfl).lt; have q1_1a := (hj1.get 1 rfl).c0; have q1_1b := (hj1.get 1 rfl).c1; have q1_1c := (hj1.get 1 rfl).c2; have q1_1l := (hj1.get 1 rfl).lt; have q1_2a := (hj1.get 2 rfl).c0; have q1_2b := (hj1.get 2 rfl).c1; have q1_2c := (hj1.get 2 rfl).c2; have q1_2l := (hj1.get 2 rfl).lt) | (go_at_call 8; (with_reducible refine (hr1 _).mono ?_); rintro e u2 ⟨rfl, hb2⟩; have hj2 : JL w [(w.heap.size, o0, t0, k0), (w.heap.size + 1, o0, t1, k1), (w.heap.size + 2, o0, t2, k2)] u2 := hj1.carry hb2; clear q1_0a q1_0b q1_0c q1_0l q1_1a q1_1b q1_1c q1_1l q1_2a q1_2b q1_2c q1_2l; have q2_0a := (hj2.get 0 rfl).c0; have q2_0b := (hj2.get 0 rfl).c1; have q2_0c := (hj2.get 0 rfl).c2; have q2_0l := (hj2.get 0 rfl).lt; have q2_1a := (hj2.get 1 rfl).c0; have q2_1b := (hj2.get 1 rfl).c1; have q2_1c := (hj2.get 1 rfl).c2; have q2_1l := (hj2.get 1 rfl).lt; have q2_2a := (hj2.get 2 rfl).c0; have q2_2b := (hj2.get 2 rfl).c1; have q2_2c := (hj2.get 2 rfl).c2; have q2_2l := (hj2.get 2 rfl).lt) | (go_at_call 8; (with_reducible refine (hr2 _).mono ?_); rintro e u3 ⟨rfl, hb3⟩; have hj3 : JL w [(w.heap.size, o0, t0, k0), (w.heap.size + 1, o0, t1, k1), (w.heap.size + 2, o0, t2, k2)] u3 := hj2.carry hb3; clear q2_0a q2_0b q2_0c q2_0l q2_1a q2_1b q2_1c q2_1l q2_2a q2_2b q2_2c q2_2l; have q3_0a := (hj3.get 0 rfl).c0; have q3_0b := (hj3.get 0 rfl).c1; have q3_0c := (hj3.get 0 rfl).c2; have q3_0l := (hj3.get 0 rfl).lt; have q3_1a := (hj3.get 1 rfl).c0; have q3_1b := (hj3.get 1 rfl).c1; have q3_1c := (hj3.get 1 rfl).c2; have q3_1l := (hj3.get 1 rfl).lt; have q3_2a := (hj3.get 2 rfl).c0; have q3_2b := (hj3.get 2 rfl).c1; have q3_2c := (hj3.get 2 rfl).c2; have q3_2l := (hj3.get 2 rfl).lt) | (go_at_call 9; (with_reducible refine (hM1 _).mono ?_); rintro e u4 ⟨rfl, hb4⟩; have hc4 : JL w [(w.heap.size, o0, t0, k0), (w.heap.size + 1, o0, t1, k1), (w.heap.size + 2, o0, t2, k2)] u4 := hj3.carry hb4; have hj4 : JL w [(w.heap.size, o0, t0, k0), (w.heap.size + 1, o0, t1, k1), (w.heap.size + 2, o0, t2, k2), (u4.heap.size, o0, xt, xk)] (u4.alloc (.cells #[.int .i64 o0, .int .i64 xt, .int .i64 xk] 23)) := (by simpa using hc4.new o0 xt xk); clear q3_0a q3_0b q3_0c q3_0l q3_1a q3_1b q3_1c q3_1l q3_2a q3_2b q3_2c q3_2l; have q4_0a := (hc4.get 0 rfl).c0; have q4_0b := (hc4.get 0 rfl).c1; have q4_0c := (hc4.get 0 rfl).c2; have q4_0l := (hc4.get 0 rfl).lt; have q4_1a := (hc4.get 1 rfl).c0; have q4_1b := (hc4.get 1 rfl).c1; have q4_1c := (hc4.get 1 rfl).c2; have q4_1l := (hc4.get 1 rfl).lt; have q4_2a := (hc4.get 2 rfl).c0; have q4_2b := (hc4.get 2 rfl).c1; have q4_2c := (hc4.get 2 rfl).c2; have q4_2l := (hc4.get 2 rfl).lt) | (go_at_call 9; (with_reducible refine (hM2 _).mono ?_); rintro e u5 ⟨rfl, hb5⟩; have hc5 : JL w [(w.heap.size, o0, t0, k0), (w.heap.size + 1, o0, t1, k1), (w.heap.size + 2, o0, t2, k2), (u4.heap.size, o0, xt, xk)] u5 := hj4.carry hb5; have hj5 : JL w [(w.heap.size, o0, t0, k0), (w.heap.size + 1, o0, t1, k1), (w.heap.size + 2, o0, t2, k2), (u4.heap.size, o0, xt, xk), (u5.heap.size, o0, xt, xk)] (u5.alloc (.cells #[.int .i64 o0, .int .i64 xt, .int .i64 xk] 23)) := (by simpa using hc5.new o0 xt xk); clear q4_0a q4_0b q4_0c q4_0l q4_1a q4_1b q4_1c q4_1l q4_2a q4_2b q4_2c q4_2l; have q5_0a := (hc5.get 0 rfl).c0; have q5_0b := (hc5.get 0 rfl).c1; have q5_0c := (hc5.get 0 rfl).c2; have q5_0l := (hc5.get 0 rfl).lt; have q5_1a := (hc5.get 1 rfl).c0; have q5_1b := (hc5.get 1 rfl).c1; have q5_1c := (hc5.get 1 rfl).c2; have q5_1l := (hc5.get 1 rfl).lt; have q5_2a := (hc5.get 2 rfl).c0; have q5_2b := (hc5.get 2 rfl).c1; have q5_2c := (hc5.get 2 rfl).c2; have q5_2l := (hc5.get 2 rfl).lt; have q5_3a := (hc5.get 3 rfl).c0; have q5_3b := (hc5.get 3 rfl).c1; have q5_3c := (hc5.get 3 rfl).c2; have q5_3l := (hc5.get 3 rfl).lt) | (go_at_call 9; (with_reducible refine (hM3 _).mono ?_); rintro e u6 ⟨rfl, hb6⟩; have hc6 : JL w [(w.heap.size, o0, t0, k0), (w.heap.size + 1, o0, t1, k1), (w.heap.size + 2, o0, t2, k2), (u4.heap.size, o0, xt, xk), (u5.heap.size, o0, xt, xk)] u6 := hj5.carry hb6; have hj6 : JL w [(w.heap.size, o0, t0, k0), (w.heap.size + 1, o0, t1, k1), (w.heap.size + 2, o0, t2, k2), (u4.heap.size, o0, xt, xk), (u5.heap.size, o0, xt, xk), (u6.heap.size, o0, zt, zk)] (u6.alloc (.cells #[.int .i64 o0, .int .i64 zt, .int .i64 zk] 23)) := (by simpa using hc6.new o0 zt zk); clear q5_0a q5_0b q5_0c q5_0l q5_1a q5_1b q5_1c q5_1l q5_2a q5_2b q5_2c q5_2l q5_3a q5_3b q5_3c q5_3l; have q6_0a := (hc6.get 0 rfl).c0; have q6_0b := (hc6.get 0 rfl).c1; have q6_0c := (hc6.get 0 rfl).c2; have q6_0l := (hc6.get 0 rfl).lt; have q6_1a := (hc6.get 1 rfl).c0; have q6_1b := (hc6.get 1 rfl).c1; have q6_1c := (hc6.get 1 rfl).c2; have q6_1l := (hc6.get 1 rfl).lt; have q6_2a := (hc6.get 2 rfl).c0; have q6_2b := (hc6.get 2 rfl).c1; have q6_2c := (hc6.get 2 rfl).c2; have q6_2l := (hc6.get 2 rfl).lt; have q6_3a := (hc6.get 3 rfl).c0; have q6_3b := (hc6.get 3 rfl).c1; have q6_3c := (hc6.get 3 rfl).c2; have q6_3l := (hc6.get 3 rfl).lt; have q6_4a := (hc6.get 4 rfl).c0; have q6_4b := (hc6.get 4 rfl).c1; have q6_4c := (hc6.get 4 rfl).c2; have q6_4l := (hc6.get 4 rfl).lt) | (go_at_call 9; (with_reducible refine (hM4 _).mono ?_); rintro e u7 ⟨rfl, hb7⟩; have hc7 : JL w [(w.heap.size, o0, t0, k0), (w.heap.size + 1, o0, t1, k1), (w.heap.size + 2, o0, t2, k2), (u4.heap.size, o0, xt, xk), (u5.heap.size, o0, xt, xk), (u6.heap.size, o0, zt, zk)] u7 := hj6.carry hb7; have hj7 : JL w [(w.heap.size, o0, t0, k0), (w.heap.size + 1, o0, t1, k1), (w.heap.size + 2, o0, t2, k2), (u4.heap.size, o0, xt, xk), (u5.heap.size, o0, xt, xk), (u6.heap.size, o0, zt, zk), (u7.heap.size, o0, ut, uk)] (u7.alloc (.cells #[.int .i64 o0, .int .i64 ut, .int .i64 uk] 23)) := (by simpa using hc7.new o0 ut uk); clear q6_0a q6_0b q6_0c q6_0l q6_1a q6_1b q6_1c q6_1l q6_2a q6_2b q6_2c q6_2l q6_3a q6_3b q6_3c q6_3l q6_4a q6_4b q6_4c q6_4l; have q7_0a := (hc7.get 0 rfl).c0; have q7_0b := (hc7.get 0 rfl).c1; have q7_0c := (hc7.get 0 rfl).c2; have q7_0l := (hc7.get 0 rfl).lt; have q7_1a := (hc7.get 1 rfl).c0; have q7_1b := (hc7.get 1 rfl).c1; have q7_1c := (hc7.get 1 rfl).c2; have q7_1l := (hc7.get 1 rfl).lt; have q7_2a := (hc7.get 2 rfl).c0; have q7_2b := (hc7.get 2 rfl).c1; have q7_2c := (hc7.get 2 rfl).c2; have q7_2l := (hc7.get 2 rfl).lt; have q7_3a := (hc7.get 3 rfl).c0; have q7_3b := (hc7.get 3 rfl).c1; have q7_3c := (hc7.get 3 rfl).c2; have q7_3l := (hc7.get 3 rfl).lt; have q7_4a := (hc7.get 4 rfl).c0; have q7_4b := (hc7.get 4 rfl).c1; have q7_4c := (hc7.get 4 rfl).c2; have q7_4l := (hc7.get 4 rfl).lt; have q7_5a := (hc7.get 5 rfl).c0; have q7_5b := (hc7.get 5 rfl).c1; have q7_5c := (hc7.get 5 rfl).c2; have q7_5l := (hc7.get 5 rfl).lt) | (go_at_call 9; (with_reducible refine (hM5 _).mono ?_); rintro e u8 ⟨rfl, hb8⟩; have hc8 : JL w [(w.heap.size, o0, t0, k0), (w.heap.size + 1, o0, t1, k1), (w.heap.size + 2, o0, t2, k2), (u4.heap.size, o0, xt, xk), (u5.heap.size, o0, xt, xk), (u6.heap.size, o0, zt, zk), (u7.heap.size, o0, ut, uk)] u8 := hj7.carry hb8; have hj8 : JL w [(w.heap.size, o0, t0, k0), (w.heap.size + 1, o0, t1, k1), (w.heap.size + 2, o0, t2, k2), (u4.heap.size, o0, xt, xk), (u5.heap.size, o0, xt, xk), (u6.heap.size, o0, zt, zk), (u7.heap.size, o0, ut, uk), (u8.heap.size, o0, ut, uk)] (u8.alloc (.cells #[.int .i64 o0, .int .i64 ut, .int .i64 uk] 23)) := (by simpa using hc8.new o0 ut uk); clear q7_0a q7_0b q7_0c q7_0l q7_1a q7_1b q7_1c q7_1l q7_2a q7_2b q7_2c q7_2l q7_3a q7_3b q7_3c q7_3l q7_4a q7_4b q7_4c q7_4l q7_5a q7_5b q7_5c q7_5l; have q8_0a := (hc8.get 0 rfl).c0; have q8_0b := (hc8.get 0 rfl).c1; have q8_0c := (hc8.get 0 rfl).c2; have q8_0l := (hc8.get 0 rfl).lt; have q8_1a := (hc8.get 1 rfl).c0; have q8_1b := (hc8.get 1 rfl).c1; have q8_1c := (hc8.get 1 rfl).c2; have q8_1l := (hc8.get 1 rfl).lt; have q8_2a := (hc8.get 2 rfl).c0; have q8_2b := (hc8.get 2 rfl).c1; have q8_2c := (hc8.get 2 rfl).c2; have q8_2l := (hc8.get 2 rfl).lt; have q8_3a := (hc8.get 3 rfl).c0; have q8_3b := (hc8.get 3 rfl).c1; have q8_3c := (hc8.get 3 rfl).c2; have q8_3l := (hc8.get 3 rfl).lt; have q8_4a := (hc8.get 4 rfl).c0; have q8_4b := (hc8.get 4 rfl).c1; have q8_4c := (hc8.get 4 rfl).c2; have q8_4l := (hc8.get 4 rfl).lt; have q8_5a := (hc8.get 5 rfl).c0; have q8_5b := (hc8.get 5 rfl).c1; have q8_5c := (hc8.get 5 rfl).c2; have q8_5l := (hc8.get 5 rfl).lt; have q8_6a := (hc8.get 6 rfl).c0; have q8_6b := (hc8.get 6 rfl).c1; have q8_6c := (hc8.get 6 rfl).c2; have q8_6l := (hc8.get 6 rfl).lt) | (go_at_call 9; (with_reducible refine (hM6 _).mono ?_); rintro e u9 ⟨rfl, hb9⟩; have hc9 : JL w [(w.heap.size, o0, t0, k0), (w.heap.size + 1, o0, t1, k1), (w.heap.size + 2, o0, t2, k2), (u4.heap.size, o0, xt, xk), (u5.heap.size, o0, xt, xk), (u6.heap.size, o0, zt, zk), (u7.heap.size, o0, ut, uk), (u8.heap.size, o0, ut, uk)] u9 := hj8.carry hb9; have hj9 : JL w [(w.heap.size, o0, t0, k0), (w.heap.size + 1, o0, t1, k1), (w.heap.size + 2, o0, t2, k2), (u4.heap.size, o0, xt, xk), (u5.heap.size, o0, xt, xk), (u6.heap.size, o0, zt, zk), (u7.heap.size, o0, ut, uk), (u8.heap.size, o0, ut, uk), (u9.heap.size, o0, t0, k0)] (u9.alloc (.cells #[.int .i64 o0, .int .i64 t0, .int .i64 k0] 23)) := (by simpa using hc9.new o0 t0 k0); clear q8_0a q8_0b q8_0c q8_0l q8_1a q8_1b q8_1c q8_1l q8_2a q8_2b q8_2c q8_2l q8_3a q8_3b q8_3c q8_3l q8_4a q8_4b q8_4c q8_4l q8_5a q8_5b q8_5c q8_5l q8_6a q8_6b q8_6c q8_6l; have q9_0a := (hc9.get 0 rfl).c0; have q9_0b := (hc9.get 0 rfl).c1; have q9_0c := (hc9.get 0 rfl).c2; have q9_0l := (hc9.get 0 rfl).lt; have q9_1a := (hc9.get 1 rfl).c0; have q9_1b := (hc9.get 1 rfl).c1; have q9_1c := (hc9.get 1 rfl).c2; have q9_1l := (hc9.get 1 rfl).lt; have q9_2a := (hc9.get 2 rfl).c0; have q9_2b := (hc9.get 2 rfl).c1; have q9_2c := (hc9.get 2 rfl).c2; have q9_2l := (hc9.get 2 rfl).lt; have q9_3a := (hc9.get 3 rfl).c0; have q9_3b := (hc9.get 3 rfl).c1; have q9_3c := (hc9.get 3 rfl).c2; have q9_3l := (hc9.get 3 rfl).lt; have q9_4a := (hc9.get 4 rfl).c0; have q9_4b := (hc9.get 4 rfl).c1; have q9_4c := (hc9.get 4 rfl).c2; have q9_4l := (hc9.get 4 rfl).lt; have q9_5a := (hc9.get 5 rfl).c0; have q9_5b := (hc9.get 5 rfl).c1; have q9_5c := (hc9.get 5 rfl).c2; have q9_5l := (hc9.get 5 rfl).lt; have q9_6a := (hc9.get 6 rfl).c0; have q9_6b := (hc9.get 6 rfl).c1; have q9_6c := (hc9.get 6 rfl).c2; have q9_6l := (hc9.get 6 rfl).lt; have q9_7a := (hc9.get 7 rfl).c0; have q9_7b := (hc9.get 7 rfl).c1; have q9_7c := (hc9.get 7 rfl).c2; have q9_7l := (hc9.get 7 rfl).lt))
    obtain ⟨⟨hab'⟩, ⟨hne⟩⟩ := hH
    have hjz : JL w [(w.heap.size, o0, t0, k0), (w.heap.size + 1, o0, t1, k1), (w.heap.size + 2, o0, t2, k2)] (u9.alloc (.cells #[.int .i64 o0, .int .i64 t0, .int .i64 k0] 23)) := ⟨fun x hx => hj9.all x (by simp only [List.mem_cons, List.not_mem_nil, or_false] at hx ⊢; rcases hx with h | h | h <;> simp [h]), hj9.below⟩
    clear q9_0a q9_0b q9_0c q9_0l q9_1a q9_1b q9_1c q9_1l q9_2a q9_2b q9_2c q9_2l q9_3a q9_3b q9_3c q9_3l q9_4a q9_4b q9_4c q9_4l q9_5a q9_5b q9_5c q9_5l q9_6a q9_6b q9_6c q9_6l q9_7a q9_7b q9_7c q9_7l
    clear hM1 hM2 hM3 hM4 hM5 hM6 hr0 hr1 hr2 hj1 hj2 hj3 hj4 hj5 hj6 hj7 hj8 hj9 hW hc4 hc5 hc6 hc7 hc8 hc9
    clear hb1 hb2 hb3 hb4 hb5 hb6 hb7 hb8 hb9
    by_cases c1 : r1 < r0
    · have c2 : ¬ r0 < r1 := by omega
      have c3 : ¬ (t0 = t1 ∧ k0 = k1) := fun e => by have := hne e; omega
      rw [decide_eq_true c1] at hab
      rw [decide_eq_false c2] at hba
      by_cases c4 : r2 < r1
      · rw [decide_eq_true c4] at hbc
        rw [decide_eq_true (show r2 < r0 by omega)] at hac
        clear c1 c2 c4 hne hab' p0 p1 p2
        by_cases d : t0 = t1
        · subst d
          have d2 : ¬ k0 = k1 := fun e => c3 ⟨rfl, e⟩
          clear c3
          (with_reducible refine (hab _).mono ?_); rintro e u10 ⟨rfl, hb10⟩; have hj10 : JL w [(w.heap.size, o0, t0, k0), (w.heap.size + 1, o0, t0, k1), (w.heap.size + 2, o0, t2, k2)] u10 := hjz.carry hb10; have q10_0a := (hj10.get 0 rfl).c0; have q10_0b := (hj10.get 0 rfl).c1; have q10_0c := (hj10.get 0 rfl).c2; have q10_0l := (hj10.get 0 rfl).lt; have q10_1a := (hj10.get 1 rfl).c0; have q10_1b := (hj10.get 1 rfl).c1; have q10_1c := (hj10.get 1 rfl).c2; have q10_1l := (hj10.get 1 rfl).lt; have q10_2a := (hj10.get 2 rfl).c0; have q10_2b := (hj10.get 2 rfl).c1; have q10_2c := (hj10.get 2 rfl).c2; have q10_2l := (hj10.get 2 rfl).lt
          go_wp2_with (first | (go_at_call 11; (with_reducible refine (hbc _).mono ?_); rintro e u11 ⟨rfl, hb11⟩; have hj11 : JL w [(w.heap.size, o0, t0, k0), (w.heap.size + 1, o0, t0, k1), (w.heap.size + 2, o0, t2, k2)] u11 := hj10.carry hb11; clear q10_0a q10_0b q10_0c q10_0l q10_1a q10_1b q10_1c q10_1l q10_2a q10_2b q10_2c q10_2l; have q11_0a := (hj11.get 0 rfl).c0; have q11_0b := (hj11.get 0 rfl).c1; have q11_0c := (hj11.get 0 rfl).c2; have q11_0l := (hj11.get 0 rfl).lt; have q11_1a := (hj11.get 1 rfl).c0; have q11_1b := (hj11.get 1 rfl).c1; have q11_1c := (hj11.get 1 rfl).c2; have q11_1l := (hj11.get 1 rfl).lt; have q11_2a := (hj11.get 2 rfl).c0; have q11_2b := (hj11.get 2 rfl).c1; have q11_2c := (hj11.get 2 rfl).c2; have q11_2l := (hj11.get 2 rfl).lt) | (go_at_call 11; (with_reducible refine (hac _).mono ?_); rintro e u12 ⟨rfl, hb12⟩; have hj12 : JL w [(w.heap.size, o0, t0, k0), (w.heap.size + 1, o0, t0, k1), (w.heap.size + 2, o0, t2, k2)] u12 := hj11.carry hb12; clear q11_0a q11_0b q11_0c q11_0l q11_1a q11_1b q11_1c q11_1l q11_2a q11_2b q11_2c q11_2l; have q12_0a := (hj12.get 0 rfl).c0; have q12_0b := (hj12.get 0 rfl).c1; have q12_0c := (hj12.get 0 rfl).c2; have q12_0l := (hj12.get 0 rfl).lt; have q12_1a := (hj12.get 1 rfl).c0; have q12_1b := (hj12.get 1 rfl).c1; have q12_1c := (hj12.get 1 rfl).c2; have q12_1l := (hj12.get 1 rfl).lt; have q12_2a := (hj12.get 2 rfl).c0; have q12_2b := (hj12.get 2 rfl).c1; have q12_2c := (hj12.get 2 rfl).c2; have q12_2l := (hj12.get 2 rfl).lt) | (go_at_call 11; (with_reducible refine (hab _).mono ?_); rintro e u13 ⟨rfl, hb13⟩; have hj13 : JL w [(w.heap.size, o0, t0, k0), (w.heap.size + 1, o0, t0, k1), (w.heap.size + 2, o0, t2, k2)] u13 := hj12.carry hb13; clear q12_0a q12_0b q12_0c q12_0l q12_1a q12_1b q12_1c q12_1l q12_2a q12_2b q12_2c q12_2l; have q13_0a := (hj13.get 0 rfl).c0; have q13_0b := (hj13.get 0 rfl).c1; have q13_0c := (hj13.get 0 rfl).c2; have q13_0l := (hj13.get 0 rfl).lt; have q13_1a := (hj13.get 1 rfl).c0; have q13_1b := (hj13.get 1 rfl).c1; have q13_1c := (hj13.get 1 rfl).c2; have q13_1l := (hj13.get 1 rfl).lt; have q13_2a := (hj13.get 2 rfl).c0; have q13_2b := (hj13.get 2 rfl).c1; have q13_2c := (hj13.get 2 rfl).c2; have q13_2l := (hj13.get 2 rfl).lt) | (go_at_call 10; (with_reducible refine (hal _).mono ?_); rintro e u14 ⟨rfl, hb14⟩; have hj14 : JL w [(w.heap.size, o0, t0, k0), (w.heap.size + 1, o0, t0, k1), (w.heap.size + 2, o0, t2, k2)] u14 := hj13.carry hb14; clear q13_0a q13_0b q13_0c q13_0l q13_1a q13_1b q13_1c q13_1l q13_2a q13_2b q13_2c q13_2l; have q14_0a := (hj14.get 0 rfl).c0; have q14_0b := (hj14.get 0 rfl).c1; have q14_0c := (hj14.get 0 rfl).c2; have q14_0l := (hj14.get 0 rfl).lt; have q14_1a := (hj14.get 1 rfl).c0; have q14_1b := (hj14.get 1 rfl).c1; have q14_1c := (hj14.get 1 rfl).c2; have q14_1l := (hj14.get 1 rfl).lt; have q14_2a := (hj14.get 2 rfl).c0; have q14_2b := (hj14.get 2 rfl).c1; have q14_2c := (hj14.get 2 rfl).c2; have q14_2l := (hj14.get 2 rfl).lt) | (go_at_call 11; (with_reducible refine (hab _).mono ?_); rintro e u15 ⟨rfl, hb15⟩; have hj15 : JL w [(w.heap.size, o0, t0, k0), (w.heap.size + 1, o0, t0, k1), (w.heap.size + 2, o0, t2, k2)] u15 := hj14.carry hb15; clear q14_0a q14_0b q14_0c q14_0l q14_1a q14_1b q14_1c q14_1l q14_2a q14_2b q14_2c q14_2l; have q15_0a := (hj15.get 0 rfl).c0; have q15_0b := (hj15.get 0 rfl).c1; have q15_0c := (hj15.get 0 rfl).c2; have q15_0l := (hj15.get 0 rfl).lt; have q15_1a := (hj15.get 1 rfl).c0; have q15_1b := (hj15.get 1 rfl).c1; have q15_1c := (hj15.get 1 rfl).c2; have q15_1l := (hj15.get 1 rfl).lt; have q15_2a := (hj15.get 2 rfl).c0; have q15_2b := (hj15.get 2 rfl).c1; have q15_2c := (hj15.get 2 rfl).c2; have q15_2l := (hj15.get 2 rfl).lt) | (go_at_call 11; (with_reducible refine (hba _).mono ?_); rintro e u16 ⟨rfl, hb16⟩; have hj16 : JL w [(w.heap.size, o0, t0, k0), (w.heap.size + 1, o0, t0, k1), (w.heap.size + 2, o0, t2, k2)] u16 := hj15.carry hb16; clear q15_0a q15_0b q15_0c q15_0l q15_1a q15_1b q15_1c q15_1l q15_2a q15_2b q15_2c q15_2l; have q16_0a := (hj16.get 0 rfl).c0; have q16_0b := (hj16.get 0 rfl).c1; have q16_0c := (hj16.get 0 rfl).c2; have q16_0l := (hj16.get 0 rfl).lt; have q16_1a := (hj16.get 1 rfl).c0; have q16_1b := (hj16.get 1 rfl).c1; have q16_1c := (hj16.get 1 rfl).c2; have q16_1l := (hj16.get 1 rfl).lt; have q16_2a := (hj16.get 2 rfl).c0; have q16_2b := (hj16.get 2 rfl).c1; have q16_2c := (hj16.get 2 rfl).c2; have q16_2l := (hj16.get 2 rfl).lt))
          go_ret
          exact ⟨rfl, hj16.below⟩
        · clear c3
          (with_reducible refine (hab _).mono ?_); rintro e u10 ⟨rfl, hb10⟩; have hj10 : JL w [(w.heap.size, o0, t0, k0), (w.heap.size + 1, o0, t1, k1), (w.heap.size + 2, o0, t2, k2)] u10 := hjz.carry hb10; have q10_0a := (hj10.get 0 rfl).c0; have q10_0b := (hj10.get 0 rfl).c1; have q10_0c := (hj10.get 0 rfl).c2; have q10_0l := (hj10.get 0 rfl).lt; have q10_1a := (hj10.get 1 rfl).c0; have q10_1b := (hj10.get 1 rfl).c1; have q10_1c := (hj10.get 1 rfl).c2; have q10_1l := (hj10.get 1 rfl).lt; have q10_2a := (hj10.get 2 rfl).c0; have q10_2b := (hj10.get 2 rfl).c1; have q10_2c := (hj10.get 2 rfl).c2; have q10_2l := (hj10.get 2 rfl).lt
          go_wp2_with (first | (go_at_call 11; (with_reducible refine (hbc _).mono ?_); rintro e u11 ⟨rfl, hb11⟩; have hj11 : JL w [(w.heap.size, o0, t0, k0), (w.heap.size + 1, o0, t1, k1), (w.heap.size + 2, o0, t2, k2)] u11 := hj10.carry hb11; clear q10_0a q10_0b q10_0c q10_0l q10_1a q10_1b q10_1c q10_1l q10_2a q10_2b q10_2c q10_2l; have q11_0a := (hj11.get 0 rfl).c0; have q11_0b := (hj11.get 0 rfl).c1; have q11_0c := (hj11.get 0 rfl).c2; have q11_0l := (hj11.get 0 rfl).lt; have q11_1a := (hj11.get 1 rfl).c0; have q11_1b := (hj11.get 1 rfl).c1; have q11_1c := (hj11.get 1 rfl).c2; have q11_1l := (hj11.get 1 rfl).lt; have q11_2a := (hj11.get 2 rfl).c0; have q11_2b := (hj11.get 2 rfl).c1; have q11_2c := (hj11.get 2 rfl).c2; have q11_2l := (hj11.get 2 rfl).lt) | (go_at_call 11; (with_reducible refine (hac _).mono ?_); rintro e u12 ⟨rfl, hb12⟩; have hj12 : JL w [(w.heap.size, o0, t0, k0), (w.heap.size + 1, o0, t1, k1), (w.heap.size + 2, o0, t2, k2)] u12 := hj11.carry hb12; clear q11_0a q11_0b q11_0c q11_0l q11_1a q11_1b q11_1c q11_1l q11_2a q11_2b q11_2c q11_2l; have q12_0a := (hj12.get 0 rfl).c0; have q12_0b := (hj12.get 0 rfl).c1; have q12_0c := (hj12.get 0 rfl).c2; have q12_0l := (hj12.get 0 rfl).lt; have q12_1a := (hj12.get 1 rfl).c0; have q12_1b := (hj12.get 1 rfl).c1; have q12_1c := (hj12.get 1 rfl).c2; have q12_1l := (hj12.get 1 rfl).lt; have q12_2a := (hj12.get 2 rfl).c0; have q12_2b := (hj12.get 2 rfl).c1; have q12_2c := (hj12.get 2 rfl).c2; have q12_2l := (hj12.get 2 rfl).lt) | (go_at_call 11; (with_reducible refine (hab _).mono ?_); rintro e u13 ⟨rfl, hb13⟩; have hj13 : JL w [(w.heap.size, o0, t0, k0), (w.heap.size + 1, o0, t1, k1), (w.heap.size + 2, o0, t2, k2)] u13 := hj12.carry hb13; clear q12_0a q12_0b q12_0c q12_0l q12_1a q12_1b q12_1c q12_1l q12_2a q12_2b q12_2c q12_2l; have q13_0a := (hj13.get 0 rfl).c0; have q13_0b := (hj13.get 0 rfl).c1; have q13_0c := (hj13.get 0 rfl).c2; have q13_0l := (hj13.get 0 rfl).lt; have q13_1a := (hj13.get 1 rfl).c0; have q13_1b := (hj13.get 1 rfl).c1; have q13_1c := (hj13.get 1 rfl).c2; have q13_1l := (hj13.get 1 rfl).lt; have q13_2a := (hj13.get 2 rfl).c0; have q13_2b := (hj13.get 2 rfl).c1; have q13_2c := (hj13.get 2 rfl).c2; have q13_2l := (hj13.get 2 rfl).lt) | (go_at_call 10; (with_reducible refine (hal _).mono ?_); rintro e u14 ⟨rfl, hb14⟩; have hj14 : JL w [(w.heap.size, o0, t0, k0), (w.heap.size + 1, o0, t1, k1), (w.heap.size + 2, o0, t2, k2)] u14 := hj13.carry hb14; clear q13_0a q13_0b q13_0c q13_0l q13_1a q13_1b q13_1c q13_1l q13_2a q13_2b q13_2c q13_2l; have q14_0a := (hj14.get 0 rfl).c0; have q14_0b := (hj14.get 0 rfl).c1; have q14_0c := (hj14.get 0 rfl).c2; have q14_0l := (hj14.get 0 rfl).lt; have q14_1a := (hj14.get 1 rfl).c0; have q14_1b := (hj14.get 1 rfl).c1; have q14_1c := (hj14.get 1 rfl).c2; have q14_1l := (hj14.get 1 rfl).lt; have q14_2a := (hj14.get 2 rfl).c0; have q14_2b := (hj14.get 2 rfl).c1; have q14_2c := (hj14.get 2 rfl).c2; have q14_2l := (hj14.get 2 rfl).lt) | (go_at_call 11; (with_reducible refine (hab _).mono ?_); rintro e u15 ⟨rfl, hb15⟩; have hj15 : JL w [(w.heap.size, o0, t0, k0), (w.heap.size + 1, o0, t1, k1), (w.heap.size + 2, o0, t2, k2)] u15 := hj14.carry hb15; clear q14_0a q14_0b q14_0c q14_0l q14_1a q14_1b q14_1c q14_1l q14_2a q14_2b q14_2c q14_2l; have q15_0a := (hj15.get 0 rfl).c0; have q15_0b := (hj15.get 0 rfl).c1; have q15_0c := (hj15.get 0 rfl).c2; have q15_0l := (hj15.get 0 rfl).lt; have q15_1a := (hj15.get 1 rfl).c0; have q15_1b := (hj15.get 1 rfl).c1; have q15_1c := (hj15.get 1 rfl).c2; have q15_1l := (hj15.get 1 rfl).lt; have q15_2a := (hj15.get 2 rfl).c0; have q15_2b := (hj15.get 2 rfl).c1; have q15_2c := (hj15.get 2 rfl).c2; have q15_2l := (hj15.get 2 rfl).lt) | (go_at_call 11; (with_reducible refine (hba _).mono ?_); rintro e u16 ⟨rfl, hb16⟩; have hj16 : JL w [(w.heap.size, o0, t0, k0), (w.heap.size + 1, o0, t1, k1), (w.heap.size + 2, o0, t2, k2)] u16 := hj15.carry hb16; clear q15_0a q15_0b q15_0c q15_0l q15_1a q15_1b q15_1c q15_1l q15_2a q15_2b q15_2c q15_2l; have q16_0a := (hj16.get 0 rfl).c0; have q16_0b := (hj16.get 0 rfl).c1; have q16_0c := (hj16.get 0 rfl).c2; have q16_0l := (hj16.get 0 rfl).lt; have q16_1a := (hj16.get 1 rfl).c0; have q16_1b := (hj16.get 1 rfl).c1; have q16_1c := (hj16.get 1 rfl).c2; have q16_1l := (hj16.get 1 rfl).lt; have q16_2a := (hj16.get 2 rfl).c0; have q16_2b := (hj16.get 2 rfl).c1; have q16_2c := (hj16.get 2 rfl).c2; have q16_2l := (hj16.get 2 rfl).lt))
          go_ret
          exact ⟨rfl, hj16.below⟩
      · rw [decide_eq_false c4] at hbc
        clear c1 c2 c4 hne hab' p0 p1 p2
        by_cases d : t0 = t1
        · subst d
          have d2 : ¬ k0 = k1 := fun e => c3 ⟨rfl, e⟩
          clear c3
          (with_reducible refine (hab _).mono ?_); rintro e u10 ⟨rfl, hb10⟩; have hj10 : JL w [(w.heap.size, o0, t0, k0), (w.heap.size + 1, o0, t0, k1), (w.heap.size + 2, o0, t2, k2)] u10 := hjz.carry hb10; have q10_0a := (hj10.get 0 rfl).c0; have q10_0b := (hj10.get 0 rfl).c1; have q10_0c := (hj10.get 0 rfl).c2; have q10_0l := (hj10.get 0 rfl).lt; have q10_1a := (hj10.get 1 rfl).c0; have q10_1b := (hj10.get 1 rfl).c1; have q10_1c := (hj10.get 1 rfl).c2; have q10_1l := (hj10.get 1 rfl).lt; have q10_2a := (hj10.get 2 rfl).c0; have q10_2b := (hj10.get 2 rfl).c1; have q10_2c := (hj10.get 2 rfl).c2; have q10_2l := (hj10.get 2 rfl).lt
          go_wp2_with (first | (go_at_call 11; (with_reducible refine (hbc _).mono ?_); rintro e u11 ⟨rfl, hb11⟩; have hj11 : JL w [(w.heap.size, o0, t0, k0), (w.heap.size + 1, o0, t0, k1), (w.heap.size + 2, o0, t2, k2)] u11 := hj10.carry hb11; clear q10_0a q10_0b q10_0c q10_0l q10_1a q10_1b q10_1c q10_1l q10_2a q10_2b q10_2c q10_2l; have q11_0a := (hj11.get 0 rfl).c0; have q11_0b := (hj11.get 0 rfl).c1; have q11_0c := (hj11.get 0 rfl).c2; have q11_0l := (hj11.get 0 rfl).lt; have q11_1a := (hj11.get 1 rfl).c0; have q11_1b := (hj11.get 1 rfl).c1; have q11_1c := (hj11.get 1 rfl).c2; have q11_1l := (hj11.get 1 rfl).lt; have q11_2a := (hj11.get 2 rfl).c0; have q11_2b := (hj11.get 2 rfl).c1; have q11_2c := (hj11.get 2 rfl).c2; have q11_2l := (hj11.get 2 rfl).lt) | (go_at_call 11; (with_reducible refine (hab _).mono ?_); rintro e u12 ⟨rfl, hb12⟩; have hj12 : JL w [(w.heap.size, o0, t0, k0), (w.heap.size + 1, o0, t0, k1), (w.heap.size + 2, o0, t2, k2)] u12 := hj11.carry hb12; clear q11_0a q11_0b q11_0c q11_0l q11_1a q11_1b q11_1c q11_1l q11_2a q11_2b q11_2c q11_2l; have q12_0a := (hj12.get 0 rfl).c0; have q12_0b := (hj12.get 0 rfl).c1; have q12_0c := (hj12.get 0 rfl).c2; have q12_0l := (hj12.get 0 rfl).lt; have q12_1a := (hj12.get 1 rfl).c0; have q12_1b := (hj12.get 1 rfl).c1; have q12_1c := (hj12.get 1 rfl).c2; have q12_1l := (hj12.get 1 rfl).lt; have q12_2a := (hj12.get 2 rfl).c0; have q12_2b := (hj12.get 2 rfl).c1; have q12_2c := (hj12.get 2 rfl).c2; have q12_2l := (hj12.get 2 rfl).lt) | (go_at_call 10; (with_reducible refine (hal _).mono ?_); rintro e u13 ⟨rfl, hb13⟩; have hj13 : JL w [(w.heap.size, o0, t0, k0), (w.heap.size + 1, o0, t0, k1), (w.heap.size + 2, o0, t2, k2)] u13 := hj12.carry hb13; clear q12_0a q12_0b q12_0c q12_0l q12_1a q12_1b q12_1c q12_1l q12_2a q12_2b q12_2c q12_2l; have q13_0a := (hj13.get 0 rfl).c0; have q13_0b := (hj13.get 0 rfl).c1; have q13_0c := (hj13.get 0 rfl).c2; have q13_0l := (hj13.get 0 rfl).lt; have q13_1a := (hj13.get 1 rfl).c0; have q13_1b := (hj13.get 1 rfl).c1; have q13_1c := (hj13.get 1 rfl).c2; have q13_1l := (hj13.get 1 rfl).lt; have q13_2a := (hj13.get 2 rfl).c0; have q13_2b := (hj13.get 2 rfl).c1; have q13_2c := (hj13.get 2 rfl).c2; have q13_2l := (hj13.get 2 rfl).lt) | (go_at_call 11; (with_reducible refine (hab _).mono ?_); rintro e u14 ⟨rfl, hb14⟩; have hj14 : JL w [(w.heap.size, o0, t0, k0), (w.heap.size + 1, o0, t0, k1), (w.heap.size + 2, o0, t2, k2)] u14 := hj13.carry hb14; clear q13_0a q13_0b q13_0c q13_0l q13_1a q13_1b q13_1c q13_1l q13_2a q13_2b q13_2c q13_2l; have q14_0a := (hj14.get 0 rfl).c0; have q14_0b := (hj14.get 0 rfl).c1; have q14_0c := (hj14.get 0 rfl).c2; have q14_0l := (hj14.get 0 rfl).lt; have q14_1a := (hj14.get 1 rfl).c0; have q14_1b := (hj14.get 1 rfl).c1; have q14_1c := (hj14.get 1 rfl).c2; have q14_1l := (hj14.get 1 rfl).lt; have q14_2a := (hj14.get 2 rfl).c0; have q14_2b := (hj14.get 2 rfl).c1; have q14_2c := (hj14.get 2 rfl).c2; have q14_2l := (hj14.get 2 rfl).lt) | (go_at_call 11; (with_reducible refine (hba _).mono ?_); rintro e u15 ⟨rfl, hb15⟩; have hj15 : JL w [(w.heap.size, o0, t0, k0), (w.heap.size + 1, o0, t0, k1), (w.heap.size + 2, o0, t2, k2)] u15 := hj14.carry hb15; clear q14_0a q14_0b q14_0c q14_0l q14_1a q14_1b q14_1c q14_1l q14_2a q14_2b q14_2c q14_2l; have q15_0a := (hj15.get 0 rfl).c0; have q15_0b := (hj15.get 0 rfl).c1; have q15_0c := (hj15.get 0 rfl).c2; have q15_0l := (hj15.get 0 rfl).lt; have q15_1a := (hj15.get 1 rfl).c0; have q15_1b := (hj15.get 1 rfl).c1; have q15_1c := (hj15.get 1 rfl).c2; have q15_1l := (hj15.get 1 rfl).lt; have q15_2a := (hj15.get 2 rfl).c0; have q15_2b := (hj15.get 2 rfl).c1; have q15_2c := (hj15.get 2 rfl).c2; have q15_2l := (hj15.get 2 rfl).lt))
          go_ret
          exact ⟨rfl, hj15.below⟩
        · clear c3
          (with_reducible refine (hab _).mono ?_); rintro e u10 ⟨rfl, hb10⟩; have hj10 : JL w [(w.heap.size, o0, t0, k0), (w.heap.size + 1, o0, t1, k1), (w.heap.size + 2, o0, t2, k2)] u10 := hjz.carry hb10; have q10_0a := (hj10.get 0 rfl).c0; have q10_0b := (hj10.get 0 rfl).c1; have q10_0c := (hj10.get 0 rfl).c2; have q10_0l := (hj10.get 0 rfl).lt; have q10_1a := (hj10.get 1 rfl).c0; have q10_1b := (hj10.get 1 rfl).c1; have q10_1c := (hj10.get 1 rfl).c2; have q10_1l := (hj10.get 1 rfl).lt; have q10_2a := (hj10.get 2 rfl).c0; have q10_2b := (hj10.get 2 rfl).c1; have q10_2c := (hj10.get 2 rfl).c2; have q10_2l := (hj10.get 2 rfl).lt
          go_wp2_with (first | (go_at_call 11; (with_reducible refine (hbc _).mono ?_); rintro e u11 ⟨rfl, hb11⟩; have hj11 : JL w [(w.heap.size, o0, t0, k0), (w.heap.size + 1, o0, t1, k1), (w.heap.size + 2, o0, t2, k2)] u11 := hj10.carry hb11; clear q10_0a q10_0b q10_0c q10_0l q10_1a q10_1b q10_1c q10_1l q10_2a q10_2b q10_2c q10_2l; have q11_0a := (hj11.get 0 rfl).c0; have q11_0b := (hj11.get 0 rfl).c1; have q11_0c := (hj11.get 0 rfl).c2; have q11_0l := (hj11.get 0 rfl).lt; have q11_1a := (hj11.get 1 rfl).c0; have q11_1b := (hj11.get 1 rfl).c1; have q11_1c := (hj11.get 1 rfl).c2; have q11_1l := (hj11.get 1 rfl).lt; have q11_2a := (hj11.get 2 rfl).c0; have q11_2b := (hj11.get 2 rfl).c1; have q11_2c := (hj11.get 2 rfl).c2; have q11_2l := (hj11.get 2 rfl).lt) | (go_at_call 11; (with_reducible refine (hab _).mono ?_); rintro e u12 ⟨rfl, hb12⟩; have hj12 : JL w [(w.heap.size, o0, t0, k0), (w.heap.size + 1, o0, t1, k1), (w.heap.size + 2, o0, t2, k2)] u12 := hj11.carry hb12; clear q11_0a q11_0b q11_0c q11_0l q11_1a q11_1b q11_1c q11_1l q11_2a q11_2b q11_2c q11_2l; have q12_0a := (hj12.get 0 rfl).c0; have q12_0b := (hj12.get 0 rfl).c1; have q12_0c := (hj12.get 0 rfl).c2; have q12_0l := (hj12.get 0 rfl).lt; have q12_1a := (hj12.get 1 rfl).c0; have q12_1b := (hj12.get 1 rfl).c1; have q12_1c := (hj12.get 1 rfl).c2; have q12_1l := (hj12.get 1 rfl).lt; have q12_2a := (hj12.get 2 rfl).c0; have q12_2b := (hj12.get 2 rfl).c1; have q12_2c := (hj12.get 2 rfl).c2; have q12_2l := (hj12.get 2 rfl).lt) | (go_at_call 10; (with_reducible refine (hal _).mono ?_); rintro e u13 ⟨rfl, hb13⟩; have hj13 : JL w [(w.heap.size, o0, t0, k0), (w.heap.size + 1, o0, t1, k1), (w.heap.size + 2, o0, t2, k2)] u13 := hj12.carry hb13; clear q12_0a q12_0b q12_0c q12_0l q12_1a q12_1b q12_1c q12_1l q12_2a q12_2b q12_2c q12_2l; have q13_0a := (hj13.get 0 rfl).c0; have q13_0b := (hj13.get 0 rfl).c1; have q13_0c := (hj13.get 0 rfl).c2; have q13_0l := (hj13.get 0 rfl).lt; have q13_1a := (hj13.get 1 rfl).c0; have q13_1b := (hj13.get 1 rfl).c1; have q13_1c := (hj13.get 1 rfl).c2; have q13_1l := (hj13.get 1 rfl).lt; have q13_2a := (hj13.get 2 rfl).c0; have q13_2b := (hj13.get 2 rfl).c1; have q13_2c := (hj13.get 2 rfl).c2; have q13_2l := (hj13.get 2 rfl).lt) | (go_at_call 11; (with_reducible refine (hab _).mono ?_); rintro e u14 ⟨rfl, hb14⟩; have hj14 : JL w [(w.heap.size, o0, t0, k0), (w.heap.size + 1, o0, t1, k1), (w.heap.size + 2, o0, t2, k2)] u14 := hj13.carry hb14; clear q13_0a q13_0b q13_0c q13_0l q13_1a q13_1b q13_1c q13_1l q13_2a q13_2b q13_2c q13_2l; have q14_0a := (hj14.get 0 rfl).c0; have q14_0b := (hj14.get 0 rfl).c1; have q14_0c := (hj14.get 0 rfl).c2; have q14_0l := (hj14.get 0 rfl).lt; have q14_1a := (hj14.get 1 rfl).c0; have q14_1b := (hj14.get 1 rfl).c1; have q14_1c := (hj14.get 1 rfl).c2; have q14_1l := (hj14.get 1 rfl).lt; have q14_2a := (hj14.get 2 rfl).c0; have q14_2b := (hj14.get 2 rfl).c1; have q14_2c := (hj14.get 2 rfl).c2; have q14_2l := (hj14.get 2 rfl).lt) | (go_at_call 11; (with_reducible refine (hba _).mono ?_); rintro e u15 ⟨rfl, hb15⟩; have hj15 : JL w [(w.heap.size, o0, t0, k0), (w.heap.size + 1, o0, t1, k1), (w.heap.size + 2, o0, t2, k2)] u15 := hj14.carry hb15; clear q14_0a q14_0b q14_0c q14_0l q14_1a q14_1b q14_1c q14_1l q14_2a q14_2b q14_2c q14_2l; have q15_0a := (hj15.get 0 rfl).c0; have q15_0b := (hj15.get 0 rfl).c1; have q15_0c := (hj15.get 0 rfl).c2; have q15_0l := (hj15.get 0 rfl).lt; have q15_1a := (hj15.get 1 rfl).c0; have q15_1b := (hj15.get 1 rfl).c1; have q15_1c := (hj15.get 1 rfl).c2; have q15_1l := (hj15.get 1 rfl).lt; have q15_2a := (hj15.get 2 rfl).c0; have q15_2b := (hj15.get 2 rfl).c1; have q15_2c := (hj15.get 2 rfl).c2; have q15_2l := (hj15.get 2 rfl).lt))
          go_ret
          exact ⟨rfl, hj15.below⟩
    · rw [decide_eq_false c1] at hab
      by_cases c2 : r0 < r1
      · have c3 : ¬ (t0 = t1 ∧ k0 = k1) := fun e => by have := hne e; omega
        rw [decide_eq_true c2] at hba
        clear c1 c2 hne hab' p0 p1 p2
        by_cases d : t0 = t1
        · subst d
          have d2 : ¬ k0 = k1 := fun e => c3 ⟨rfl, e⟩
          clear c3
          (with_reducible refine (hab _).mono ?_); rintro e u10 ⟨rfl, hb10⟩; have hj10 : JL w [(w.heap.size, o0, t0, k0), (w.heap.size + 1, o0, t0, k1), (w.heap.size + 2, o0, t2, k2)] u10 := hjz.carry hb10; have q10_0a := (hj10.get 0 rfl).c0; have q10_0b := (hj10.get 0 rfl).c1; have q10_0c := (hj10.get 0 rfl).c2; have q10_0l := (hj10.get 0 rfl).lt; have q10_1a := (hj10.get 1 rfl).c0; have q10_1b := (hj10.get 1 rfl).c1; have q10_1c := (hj10.get 1 rfl).c2; have q10_1l := (hj10.get 1 rfl).lt; have q10_2a := (hj10.get 2 rfl).c0; have q10_2b := (hj10.get 2 rfl).c1; have q10_2c := (hj10.get 2 rfl).c2; have q10_2l := (hj10.get 2 rfl).lt
          go_wp2_with (first | (go_at_call 11; (with_reducible refine (hab _).mono ?_); rintro e u11 ⟨rfl, hb11⟩; have hj11 : JL w [(w.heap.size, o0, t0, k0), (w.heap.size + 1, o0, t0, k1), (w.heap.size + 2, o0, t2, k2)] u11 := hj10.carry hb11; clear q10_0a q10_0b q10_0c q10_0l q10_1a q10_1b q10_1c q10_1l q10_2a q10_2b q10_2c q10_2l; have q11_0a := (hj11.get 0 rfl).c0; have q11_0b := (hj11.get 0 rfl).c1; have q11_0c := (hj11.get 0 rfl).c2; have q11_0l := (hj11.get 0 rfl).lt; have q11_1a := (hj11.get 1 rfl).c0; have q11_1b := (hj11.get 1 rfl).c1; have q11_1c := (hj11.get 1 rfl).c2; have q11_1l := (hj11.get 1 rfl).lt; have q11_2a := (hj11.get 2 rfl).c0; have q11_2b := (hj11.get 2 rfl).c1; have q11_2c := (hj11.get 2 rfl).c2; have q11_2l := (hj11.get 2 rfl).lt) | (go_at_call 11; (with_reducible refine (hba _).mono ?_); rintro e u12 ⟨rfl, hb12⟩; have hj12 : JL w [(w.heap.size, o0, t0, k0), (w.heap.size + 1, o0, t0, k1), (w.heap.size + 2, o0, t2, k2)] u12 := hj11.carry hb12; clear q11_0a q11_0b q11_0c q11_0l q11_1a q11_1b q11_1c q11_1l q11_2a q11_2b q11_2c q11_2l; have q12_0a := (hj12.get 0 rfl).c0; have q12_0b := (hj12.get 0 rfl).c1; have q12_0c := (hj12.get 0 rfl).c2; have q12_0l := (hj12.get 0 rfl).lt; have q12_1a := (hj12.get 1 rfl).c0; have q12_1b := (hj12.get 1 rfl).c1; have q12_1c := (hj12.get 1 rfl).c2; have q12_1l := (hj12.get 1 rfl).lt; have q12_2a := (hj12.get 2 rfl).c0; have q12_2b := (hj12.get 2 rfl).c1; have q12_2c := (hj12.get 2 rfl).c2; have q12_2l := (hj12.get 2 rfl).lt) | (go_at_call 10; (with_reducible refine (hal _).mono ?_); rintro e u13 ⟨rfl, hb13⟩; have hj13 : JL w [(w.heap.size, o0, t0, k0), (w.heap.size + 1, o0, t0, k1), (w.heap.size + 2, o0, t2, k2)] u13 := hj12.carry hb13; clear q12_0a q12_0b q12_0c q12_0l q12_1a q12_1b q12_1c q12_1l q12_2a q12_2b q12_2c q12_2l; have q13_0a := (hj13.get 0 rfl).c0; have q13_0b := (hj13.get 0 rfl).c1; have q13_0c := (hj13.get 0 rfl).c2; have q13_0l := (hj13.get 0 rfl).lt; have q13_1a := (hj13.get 1 rfl).c0; have q13_1b := (hj13.get 1 rfl).c1; have q13_1c := (hj13.get 1 rfl).c2; have q13_1l := (hj13.get 1 rfl).lt; have q13_2a := (hj13.get 2 rfl).c0; have q13_2b := (hj13.get 2 rfl).c1; have q13_2c := (hj13.get 2 rfl).c2; have q13_2l := (hj13.get 2 rfl).lt) | (go_at_call 11; (with_reducible refine (hab _).mono ?_); rintro e u14 ⟨rfl, hb14⟩; have hj14 : JL w [(w.heap.size, o0, t0, k0), (w.heap.size + 1, o0, t0, k1), (w.heap.size + 2, o0, t2, k2)] u14 := hj13.carry hb14; clear q13_0a q13_0b q13_0c q13_0l q13_1a q13_1b q13_1c q13_1l q13_2a q13_2b q13_2c q13_2l; have q14_0a := (hj14.get 0 rfl).c0; have q14_0b := (hj14.get 0 rfl).c1; have q14_0c := (hj14.get 0 rfl).c2; have q14_0l := (hj14.get 0 rfl).lt; have q14_1a := (hj14.get 1 rfl).c0; have q14_1b := (hj14.get 1 rfl).c1; have q14_1c := (hj14.get 1 rfl).c2; have q14_1l := (hj14.get 1 rfl).lt; have q14_2a := (hj14.get 2 rfl).c0; have q14_2b := (hj14.get 2 rfl).c1; have q14_2c := (hj14.get 2 rfl).c2; have q14_2l := (hj14.get 2 rfl).lt))
          go_ret
          exact ⟨rfl, hj14.below⟩
        · clear c3
          (with_reducible refine (hab _).mono ?_); rintro e u10 ⟨rfl, hb10⟩; have hj10 : JL w [(w.heap.size, o0, t0, k0), (w.heap.size + 1, o0, t1, k1), (w.heap.size + 2, o0, t2, k2)] u10 := hjz.carry hb10; have q10_0a := (hj10.get 0 rfl).c0; have q10_0b := (hj10.get 0 rfl).c1; have q10_0c := (hj10.get 0 rfl).c2; have q10_0l := (hj10.get 0 rfl).lt; have q10_1a := (hj10.get 1 rfl).c0; have q10_1b := (hj10.get 1 rfl).c1; have q10_1c := (hj10.get 1 rfl).c2; have q10_1l := (hj10.get 1 rfl).lt; have q10_2a := (hj10.get 2 rfl).c0; have q10_2b := (hj10.get 2 rfl).c1; have q10_2c := (hj10.get 2 rfl).c2; have q10_2l := (hj10.get 2 rfl).lt
          go_wp2_with (first | (go_at_call 11; (with_reducible refine (hab _).mono ?_); rintro e u11 ⟨rfl, hb11⟩; have hj11 : JL w [(w.heap.size, o0, t0, k0), (w.heap.size + 1, o0, t1, k1), (w.heap.size + 2, o0, t2, k2)] u11 := hj10.carry hb11; clear q10_0a q10_0b q10_0c q10_0l q10_1a q10_1b q10_1c q10_1l q10_2a q10_2b q10_2c q10_2l; have q11_0a := (hj11.get 0 rfl).c0; have q11_0b := (hj11.get 0 rfl).c1; have q11_0c := (hj11.get 0 rfl).c2; have q11_0l := (hj11.get 0 rfl).lt; have q11_1a := (hj11.get 1 rfl).c0; have q11_1b := (hj11.get 1 rfl).c1; have q11_1c := (hj11.get 1 rfl).c2; have q11_1l := (hj11.get 1 rfl).lt; have q11_2a := (hj11.get 2 rfl).c0; have q11_2b := (hj11.get 2 rfl).c1; have q11_2c := (hj11.get 2 rfl).c2; have q11_2l := (hj11.get 2 rfl).lt) | (go_at_call 11; (with_reducible refine (hba _).mono ?_); rintro e u12 ⟨rfl, hb12⟩; have hj12 : JL w [(w.heap.size, o0, t0, k0), (w.heap.size + 1, o0, t1, k1), (w.heap.size + 2, o0, t2, k2)] u12 := hj11.carry hb12; clear q11_0a q11_0b q11_0c q11_0l q11_1a q11_1b q11_1c q11_1l q11_2a q11_2b q11_2c q11_2l; have q12_0a := (hj12.get 0 rfl).c0; have q12_0b := (hj12.get 0 rfl).c1; have q12_0c := (hj12.get 0 rfl).c2; have q12_0l := (hj12.get 0 rfl).lt; have q12_1a := (hj12.get 1 rfl).c0; have q12_1b := (hj12.get 1 rfl).c1; have q12_1c := (hj12.get 1 rfl).c2; have q12_1l := (hj12.get 1 rfl).lt; have q12_2a := (hj12.get 2 rfl).c0; have q12_2b := (hj12.get 2 rfl).c1; have q12_2c := (hj12.get 2 rfl).c2; have q12_2l := (hj12.get 2 rfl).lt) | (go_at_call 10; (with_reducible refine (hal _).mono ?_); rintro e u13 ⟨rfl, hb13⟩; have hj13 : JL w [(w.heap.size, o0, t0, k0), (w.heap.size + 1, o0, t1, k1), (w.heap.size + 2, o0, t2, k2)] u13 := hj12.carry hb13; clear q12_0a q12_0b q12_0c q12_0l q12_1a q12_1b q12_1c q12_1l q12_2a q12_2b q12_2c q12_2l; have q13_0a := (hj13.get 0 rfl).c0; have q13_0b := (hj13.get 0 rfl).c1; have q13_0c := (hj13.get 0 rfl).c2; have q13_0l := (hj13.get 0 rfl).lt; have q13_1a := (hj13.get 1 rfl).c0; have q13_1b := (hj13.get 1 rfl).c1; have q13_1c := (hj13.get 1 rfl).c2; have q13_1l := (hj13.get 1 rfl).lt; have q13_2a := (hj13.get 2 rfl).c0; have q13_2b := (hj13.get 2 rfl).c1; have q13_2c := (hj13.get 2 rfl).c2; have q13_2l := (hj13.get 2 rfl).lt) | (go_at_call 11; (with_reducible refine (hab _).mono ?_); rintro e u14 ⟨rfl, hb14⟩; have hj14 : JL w [(w.heap.size, o0, t0, k0), (w.heap.size + 1, o0, t1, k1), (w.heap.size + 2, o0, t2, k2)] u14 := hj13.carry hb14; clear q13_0a q13_0b q13_0c q13_0l q13_1a q13_1b q13_1c q13_1l q13_2a q13_2b q13_2c q13_2l; have q14_0a := (hj14.get 0 rfl).c0; have q14_0b := (hj14.get 0 rfl).c1; have q14_0c := (hj14.get 0 rfl).c2; have q14_0l := (hj14.get 0 rfl).lt; have q14_1a := (hj14.get 1 rfl).c0; have q14_1b := (hj14.get 1 rfl).c1; have q14_1c := (hj14.get 1 rfl).c2; have q14_1l := (hj14.get 1 rfl).lt; have q14_2a := (hj14.get 2 rfl).c0; have q14_2b := (hj14.get 2 rfl).c1; have q14_2c := (hj14.get 2 rfl).c2; have q14_2l := (hj14.get 2 rfl).lt))
          go_ret
          exact ⟨rfl, hj14.below⟩
      · obtain ⟨rfl, rfl⟩ := hab' (by omega)
        rw [decide_eq_false c2] at hba
        clear c1 c2 hne hab' p0 p1 p2
        (with_reducible refine (hab _).mono ?_); rintro e u10 ⟨rfl, hb10⟩; have hj10 : JL w [(w.heap.size, o0, t0, k0), (w.heap.size + 1, o0, t0, k0), (w.heap.size + 2, o0, t2, k2)] u10 := hjz.carry hb10; have q10_0a := (hj10.get 0 rfl).c0; have q10_0b := (hj10.get 0 rfl).c1; have q10_0c := (hj10.get 0 rfl).c2; have q10_0l := (hj10.get 0 rfl).lt; have q10_1a := (hj10.get 1 rfl).c0; have q10_1b := (hj10.get 1 rfl).c1; have q10_1c := (hj10.get 1 rfl).c2; have q10_1l := (hj10.get 1 rfl).lt; have q10_2a := (hj10.get 2 rfl).c0; have q10_2b := (hj10.get 2 rfl).c1; have q10_2c := (hj10.get 2 rfl).c2; have q10_2l := (hj10.get 2 rfl).lt
        go_wp2_with (first | (go_at_call 11; (with_reducible refine (hab _).mono ?_); rintro e u11 ⟨rfl, hb11⟩; have hj11 : JL w [(w.heap.size, o0, t0, k0), (w.heap.size + 1, o0, t0, k0), (w.heap.size + 2, o0, t2, k2)] u11 := hj10.carry hb11; clear q10_0a q10_0b q10_0c q10_0l q10_1a q10_1b q10_1c q10_1l q10_2a q10_2b q10_2c q10_2l; have q11_0a := (hj11.get 0 rfl).c0; have q11_0b := (hj11.get 0 rfl).c1; have q11_0c := (hj11.get 0 rfl).c2; have q11_0l := (hj11.get 0 rfl).lt; have q11_1a := (hj11.get 1 rfl).c0; have q11_1b := (hj11.get 1 rfl).c1; have q11_1c := (hj11.get 1 rfl).c2; have q11_1l := (hj11.get 1 rfl).lt; have q11_2a := (hj11.get 2 rfl).c0; have q11_2b := (hj11.get 2 rfl).c1; have q11_2c := (hj11.get 2 rfl).c2; have q11_2l := (hj11.get 2 rfl).lt) | (go_at_call 11; (with_reducible refine (hab _).mono ?_); rintro e u12 ⟨rfl, hb12⟩; have hj12 : JL w [(w.heap.size, o0, t0, k0), (w.heap.size + 1, o0, t0, k0), (w.heap.size + 2, o0, t2, k2)] u12 := hj11.carry hb12; clear q11_0a q11_0b q11_0c q11_0l q11_1a q11_1b q11_1c q11_1l q11_2a q11_2b q11_2c q11_2l; have q12_0a := (hj12.get 0 rfl).c0; have q12_0b := (hj12.get 0 rfl).c1; have q12_0c := (hj12.get 0 rfl).c2; have q12_0l := (hj12.get 0 rfl).lt; have q12_1a := (hj12.get 1 rfl).c0; have q12_1b := (hj12.get 1 rfl).c1; have q12_1c := (hj12.get 1 rfl).c2; have q12_1l := (hj12.get 1 rfl).lt; have q12_2a := (hj12.get 2 rfl).c0; have q12_2b := (hj12.get 2 rfl).c1; have q12_2c := (hj12.get 2 rfl).c2; have q12_2l := (hj12.get 2 rfl).lt) | (go_at_call 10; (with_reducible refine (hal _).mono ?_); rintro e u13 ⟨rfl, hb13⟩; have hj13 : JL w [(w.heap.size, o0, t0, k0), (w.heap.size + 1, o0, t0, k0), (w.heap.size + 2, o0, t2, k2)] u13 := hj12.carry hb13; clear q12_0a q12_0b q12_0c q12_0l q12_1a q12_1b q12_1c q12_1l q12_2a q12_2b q12_2c q12_2l; have q13_0a := (hj13.get 0 rfl).c0; have q13_0b := (hj13.get 0 rfl).c1; have q13_0c := (hj13.get 0 rfl).c2; have q13_0l := (hj13.get 0 rfl).lt; have q13_1a := (hj13.get 1 rfl).c0; have q13_1b := (hj13.get 1 rfl).c1; have q13_1c := (hj13.get 1 rfl).c2; have q13_1l := (hj13.get 1 rfl).lt; have q13_2a := (hj13.get 2 rfl).c0; have q13_2b := (hj13.get 2 rfl).c1; have q13_2c := (hj13.get 2 rfl).c2; have q13_2l := (hj13.get 2 rfl).lt) | (go_at_call 11; (with_reducible refine (hab _).mono ?_); rintro e u14 ⟨rfl, hb14⟩; have hj14 : JL w [(w.heap.size, o0, t0, k0), (w.heap.size + 1, o0, t0, k0), (w.heap.size + 2, o0, t2, k2)] u14 := hj13.carry hb14; clear q13_0a q13_0b q13_0c q13_0l q13_1a q13_1b q13_1c q13_1l q13_2a q13_2b q13_2c q13_2l; have q14_0a := (hj14.get 0 rfl).c0; have q14_0b := (hj14.get 0 rfl).c1; have q14_0c := (hj14.get 0 rfl).c2; have q14_0l := (hj14.get 0 rfl).lt; have q14_1a := (hj14.get 1 rfl).c0; have q14_1b := (hj14.get 1 rfl).c1; have q14_1c := (hj14.get 1 rfl).c2; have q14_1l := (hj14.get 1 rfl).lt; have q14_2a := (hj14.get 2 rfl).c0; have q14_2b := (hj14.get 2 rfl).c1; have q14_2c := (hj14.get 2 rfl).c2; have q14_2l := (hj14.get 2 rfl).lt))
        go_ret
        exact ⟨rfl, hj14.below⟩

set_option maxRecDepth 100000 in
theorem lifted (os : Os) (started : os.Started) (H : Type) (enc : TypeId × Value → H) :
    ReturnsInHanded {} Try.checked os 3 .any (Rows.noticeOrderSpec.pre6 enc Try.prog Try.f3 Rows.noticeOrderRow.domain false) (Rows.noticeOrderSpec.post enc Try.prog Try.f3 false true false false) := by
  refine returnsInHanded_of_change (C := Try.checked) own started (by kernel_rfl) Try.func3
    (ChangeSpec.witness6 (enc := enc) (C := Try.checked) false ⟨#[], #[.agg #[.int .i64 0, .int .i64 0, .int .i64 0], .agg #[.int .i64 0, .int .i64 0, .int .i64 0], .agg #[.int .i64 0, .int .i64 0, .int .i64 0]], []⟩ 8 (by kernel_rfl) (by kernel_rfl) (by kernel_rfl) (by kernel_rfl)) ?_
  intro W base args ds gs before hval0 hW hcnd _
  have hval : ∀ (j : Nat) t v, Try.f3.params[j]? = some t → args[j]? = some v → Value.okWide Try.prog W .any base t v := hval0
  have hW' := hW
  obtain ⟨p, q, hA0, hV, rfl, hfz, hnd⟩ := hW
  have hA : DataW.TrodAll enc Try.prog W 0 (fun _ => true) true Try.f3.params.toList args.toList ds p := hA0
  rw [Try.params3] at hA hval
  obtain ⟨v0, vs0, d0, ds0, p0, q0, hargs, rfl, rfl, h0, r0⟩ := trodAll_cons hA
  obtain ⟨v1, vs1, d1, ds1, p1, q1, rfl, rfl, rfl, h1, r1⟩ := trodAll_cons r0
  obtain ⟨v2, vs2, d2, ds2, p2, q2, rfl, rfl, rfl, h2, r2⟩ := trodAll_cons r1
  obtain ⟨rfl, rfl, rfl⟩ := trodAll_nil r2
  obtain rfl : args = #[v0, v1, v2] := by cases args; simp_all
  obtain ⟨rfl, rfl⟩ := trodVars_none hV
  obtain ⟨o0, t0, k0, rfl, rfl, rfl, wo0, wt0, wk0⟩ := open_nt (hval 0 23 v0 rfl rfl) h0
  obtain ⟨o1, t1, k1, rfl, rfl, rfl, wo1, wt1, wk1⟩ := open_nt (hval 1 23 v1 rfl rfl) h1
  obtain ⟨o2, t2, k2, rfl, rfl, rfl, wo2, wt2, wk2⟩ := open_nt (hval 2 23 v2 rfl rfl) h2
  clear hA0 hval0
  simp only [List.append_nil] at hW'
  refine (walk o0 t0 k0 wo0 wt0 wk0 o1 t1 k1 wo1 wt1 wk1 o2 t2 k2 wo2 wt2 wk2 W).mono fun e W' ⟨he, hg⟩ => ?_
  subst he
  exact ⟨_, rfl, _, _, _, [], _, [], hW', (trodAll_cons_mk (shut_bool Try.underlying4 _) trodAll_mk0), (trodAll_cons_mk (shut_nt wo0 wt0 wk0) (trodAll_cons_mk (shut_nt wo1 wt1 wk1) (trodAll_cons_mk (shut_nt wo2 wt2 wk2) trodAll_mk0))), rfl, hg.frame _, fun h => by cases h⟩

theorem over : Rows.noticeOrderRow.holds Try.pinned (OpenSpec.ofChange Rows.noticeOrderSpec) :=
  OpenClaim.holds_of_wide 3 Try.f3 rfl rfl rfl rfl rfl rfl rfl ⟨rfl, rfl, rfl, rfl, rfl⟩ rfl rfl rfl rfl rfl (by kernel_rfl) Try.func3 (by kernel_rfl)
    (of_decide_eq_true (by kernel_rfl)) (by unfold Func.isWrapper; first | (rw [if_pos (by decide +kernel)]; kernel_rfl) | (rw [if_neg (by decide +kernel)]; exact ⟨rfl, rfl⟩))
    (fun os started H enc _ => lifted os started H enc)

theorem proved : Rows.NoticeOrderSaid :=
  over
#print axioms proved
end Go.Proofs.Ytebpngapkkdifaa
