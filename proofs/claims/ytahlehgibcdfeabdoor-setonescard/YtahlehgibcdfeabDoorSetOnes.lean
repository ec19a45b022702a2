/- SetOnes: for every set and all two numbers With, Nth, Has, Without, Count, Least and Ids answer as the document does; under the row's own word that math/bits.deBruijn32tab is laid as its text says. -/
import Derived.Test.YtahlehgibcdfeabDoorRows
import Derived.WalkKit
import Derived.ProofKit
import Derived.OpenShut
import Derived.Stop.Joined
import Derived.Lay
import Derived.SevenTiedAt
import Derived.SizedLaws
import Derived.LaidMore
import Derived.Test.YtahlehgibcdfeabDoorTie
import Derived.Test.YtahlehgibcdfeabDoorCards
import Derived.Test.YtahlehgibcdfeabDoorRfu
import Derived.Test.YtahlehgibcdfeabDoorIds
import Derived.Test.YtahlehgibcdfeabDoorTabl
namespace Go.Proofs.YtahlehgibcdfeabDoor
open Go.ChangeShapes Go.WideShapes Go.ChangeAt Go.RowKit
set_option linter.unusedVariables false


theorem own : ownKnob Tryd.prog.godebug = none := by kernel_rfl
open Go.Lib (popAux)
/-- What lies where, ahead of the tests. -/
structure JO (w : World) (N X b7 b9 : Nat) (W : World) : Prop where
  s : Holds4 W w.heap.size (wd N)
  x : Holds4 W b7 (wd X)
  y : Holds4 W b9 (wd X)
  l7 : w.heap.size ≤ b7
  l9 : w.heap.size ≤ b9
  below : Below w.heap.size w W
theorem JO.carry {w : World} {N X b7 b9 : Nat} {W W' : World} (h : JO w N X b7 b9 W) (hb : Below W.heap.size W W') : JO w N X b7 b9 W' :=
  ⟨h.s.carry hb, h.x.carry hb, h.y.carry hb, h.l7, h.l9, bcarry h.below (Nat.le_refl _) hb⟩
theorem bin_neqb {x y : Operand} {w : World} (a : Bool) : binRun Tryd.prog .neq 4 x y (.bool a) (.bool a) w = .ok (.bool false) w := by
  unfold binRun
  cases a <;> go_simp
theorem wol_lt (N : Nat) (id : Int) : wolN N id < S128 := by
  unfold wolN
  split
  · exact dif_lt (cln_lt' _)
  · exact cln_lt' _
theorem cnt_cln_ids (N : Nat) : cnt (cln N) = (idsTo N 100).length := by rw [← idsTo_cln, idsTo_length]; rfl
/-- And while the two lists are made. -/
structure JI (w : World) (N X b7 b9 : Nat) (g : Value × Value) (x17 x19 : Bool) (W : World) : Prop where
  o : JO w N X b7 b9 W
  u : x17 = true → RdL W g.1 (idsTo N 100)
  v : x19 = true → RdL W g.2 (idsTo N 100)
theorem JI.carry {w : World} {N X b7 b9 : Nat} {g : Value × Value} {x17 x19 : Bool} {W W' : World} (h : JI w N X b7 b9 g x17 x19 W) (hb : Below W.heap.size W W') : JI w N X b7 b9 g x17 x19 W' :=
  ⟨h.o.carry hb, fun e => (h.u e).carry hb, fun e => (h.v e).carry hb⟩
/-- A call whose answer is found out on the way. -/
theorem stepG_call {G : Type} {P : Program} {md : Region.Mode} {ops : Array Oper} {Q : Exit → Act → World → Prop} {X0 : Array Value} {val : G → Nat → Value} {J : G → (Nat → Bool) → World → Prop} {i : Nat} {o : Oper}
    (hi : ops[i]? = some o) (hg : ∀ g, GOk md ops X0 (val g) i o) (f : FuncId) (xs : Array Operand) (ts : Array TypeId) (vs : G → List Value) (ho : o.op = .call { callee := .value (.func f), args := xs, argTypes := ts })
    (hx : ∀ g, xs.toList.map (rdo md ops X0 (val g) i o) = (vs g).map some) (hen : ∀ args w, (callFunc f args).run P w = .ok (.enter f args) w)
    (hc : ∀ g d w, J g d w → d i = false → (∀ j, bindsOn md o j = true → d j = true) → Calls P f (vs g).toArray w fun e w' => ∃ g', e = .returned (val g' i) ∧ (∀ j, d j = true → val g' j = val g j) ∧ J g' (fun j => if j = i then true else d j) w') : StepG P md ops Q X0 val J i o := by
  intro g d a w hJ hun hdep _ hS
  unfold wpOp
  rw [hi]
  have hS' : Seen md ops X0 (val g) i o a := hS
  simp only [wanted_of hS' (hg g), if_true]
  refine .inl ?_
  unfold Oper.wp execOp
  have e : xs.map a.eval = (vs g).toArray := by
    apply Array.toList_inj.1
    rw [Array.toList_map]
    exact hS'.evals _ _ (hx g)
  have e2 : a.eval (.func f) = .func (.func f) #[] #[] := rfl
  simp only [ho, resolve, e, e2, Deferred.ofValue, Sem.run_bind, Sem.run_pure, Result.andThen_ok, invoke, Array.empty_append, Array.append_empty, hen, Oper.upon_enter]
  refine (hc g d w hJ hun hdep).mono ?_
  rintro e' w' ⟨g', rfl, h1, h2⟩
  exact ⟨g', h1, rfl, h2⟩
set_option maxHeartbeats 4000000 in
set_option maxRecDepth 100000 in
theorem walk (N0 : Nat) (hN0 : N0 < S128) (a1 : Int) (w1 : (Lit.int .i64 a1).wf = true) (a2 : Int) (w2 : (Lit.int .i64 a2).wf = true) (w : World) (hL : laidMetH Tryd.prog Rows.setOnesRow.laid w) :
    Calls Tryd.prog 3 #[sv N0, .int .i64 a1, .int .i64 a2] w fun e w' => e = .returned (.bool true) ∧ Below w.heap.size w w' := by
  have hT : Tab w := tab_of hL
  have hmx : Tryd.prog.follows .mixedOrders = true := by kernel_rfl
  have hk := bounds_i64 w2
  have hw1 := with_any N0 a1
  have hw2 := rWith_any N0 a1
  have hn1 := nth_any N0 a2 hk
  have hn2 := rNth_any N0 a2
  obtain ⟨X, z, hX, hwV⟩ : ∃ X z, X < S128 ∧ withV N0 a1 = .tuple #[sv X, .int .i64 z] := by
    unfold withV
    split
    · rename_i h
      refine ⟨_, _, ?_, rfl⟩
      have : 2 ^ a1.toNat < S128 := Nat.pow_lt_pow_right (a := 2) (n := 128) (by decide) (by omega)
      exact or_lt (cln_lt' _) this
    · exact ⟨0, _, by decide, rfl⟩
  obtain ⟨y, q, hnV⟩ : ∃ y q, nthV (cln N0) a2 = .tuple #[.int .i64 y, .int .i64 q] := by
    unfold nthV
    split
    · exact ⟨_, _, rfl⟩
    · exact ⟨_, _, rfl⟩
  rw [hwV] at hw1 hw2
  rw [hnV] at hn1 hn2
  clear hwV hnV
  go_enter Tryd.func3, Tryd.ntmps3
  simp only [sv] at hw1 hw2 hn1 hn2 ⊢
  go_wp2_with (first | (go_at_call 6; refine (hw1 _).mono ?_; rintro e wA ⟨rfl, hbA⟩; have qA : Hid (Holds4 wA w.heap.size (wd N0)) := (hbA.block _ (by simp)).trans (get_new (by simp)); have bA : Below w.heap.size w wA := bcarry (alloc_below w _) (Nat.le_refl _) hbA; have lA := qA.out.lt; obtain ⟨y0, y1, y2, y3, _⟩ := qA.out.facts; clear hw1 hbA) | (go_at_call 7; refine (hw2 _).mono ?_; rintro e wB ⟨rfl, hbB⟩; have qB : Hid (Holds4 wB w.heap.size (wd N0)) := (hbB.block _ (by simp; omega)).trans (get_old qA.out); have xB : Hid (Holds4 wB wA.heap.size (wd X)) := (hbB.block _ (by simp)).trans (get_new rfl); have bB : Below w.heap.size w wB := bcarry (bA.alloc (by omega) _) (Nat.le_refl _) hbB; have lB := xB.out.lt; have lB' : w.heap.size < wB.heap.size := (by omega); clear y0 y1 y2 y3 hw2 hbB qA; obtain ⟨y0, y1, y2, y3, _⟩ := qB.out.facts) | (go_at_call 8; refine (hn1 _ (hT.keep (bB.alloc (by omega) _) hT.lt)).mono ?_; rintro e wC ⟨rfl, hbC⟩; have qC : Hid (Holds4 wC w.heap.size (wd N0)) := (hbC.block _ (by simp; omega)).trans (get_old qB.out); have xC : Hid (Holds4 wC wA.heap.size (wd X)) := (hbC.block _ (by simp; omega)).trans (get_old xB.out); have zC : Hid (Holds4 wC wB.heap.size (wd X)) := (hbC.block _ (by simp)).trans (get_new rfl); have bC : Below w.heap.size w wC := bcarry (bB.alloc (by omega) _) (Nat.le_refl _) hbC; clear y0 y1 y2 y3 hn1 hbC qB xB; obtain ⟨y0, y1, y2, y3, _⟩ := qC.out.facts) | (go_at_call 9; refine (hn2 _).mono ?_; rintro e wD ⟨rfl, hbD⟩))
  have hJ : JO w N0 X wA.heap.size wB.heap.size wD := ⟨qC.out.carry hbD, xC.out.carry hbD, zC.out.carry hbD, by omega, by omega, bcarry bC (Nat.le_refl _) hbD⟩
  clear y0 y1 y2 y3 hn2 hbD qC xC zC bC bB bA
  rename_i Q0 K0 hK
  refine wp_region_any hmx ?_
  refine wpAny_pure (fun i__ => ([(sv X), (sv X), (.bool false), (.bool false), (.int .i64 z), (.int .i64 z), (.bool false), (.bool false), (.bool false), (.int .i64 y), (.int .i64 y), (.bool false), (.bool false), (.bool false), (.int .i64 q), (.int .i64 q), (.bool false), (.bool false), (.bool false), (sv N0), (.int .i64 a1), (.bool (hasB N0 a1)), (sv N0), (.int .i64 a1), (.bool (hasB N0 a1)), (.bool false), (.bool false), (.bool false), (sv N0), (.int .i64 a1), (sv (wolN N0 a1)), (sv N0), (.int .i64 a1), (sv (wolN N0 a1)), (.bool false), (.bool false)] : List Value).getD i__ undef) (fun W => JO w N0 X wA.heap.size wB.heap.size W) (by kernel_rfl) (hJ.carry (Below.refl _ _).drew) ?_ ?_
  · refine (stepsFrom_cons ?_ (stepsFrom_cons ?_ (stepsFrom_cons ?_ (stepsFrom_cons ?_ (stepsFrom_cons ?_ (stepsFrom_cons ?_ (stepsFrom_cons ?_ (stepsFrom_cons ?_ (stepsFrom_cons ?_ (stepsFrom_cons ?_ (stepsFrom_cons ?_ (stepsFrom_cons ?_ (stepsFrom_cons ?_ (stepsFrom_cons ?_ (stepsFrom_cons ?_ (stepsFrom_cons ?_ (stepsFrom_cons ?_ (stepsFrom_cons ?_ (stepsFrom_cons ?_ (stepsFrom_cons ?_ (stepsFrom_cons ?_ (stepsFrom_cons ?_ (stepsFrom_cons ?_ (stepsFrom_cons ?_ (stepsFrom_cons ?_ (stepsFrom_cons ?_ (stepsFrom_cons ?_ (stepsFrom_cons ?_ (stepsFrom_cons ?_ (stepsFrom_cons ?_ (stepsFrom_cons ?_ (stepsFrom_cons ?_ (stepsFrom_cons ?_ (stepsFrom_cons ?_ (stepsFrom_cons ?_ (stepsFrom_cons ?_ trivial))))))))))))))))))))))))))))))))))))
    · exact step_load rfl trivial _ _ _ rfl rfl (fun w hw => whole4 w _ X hw.x)
    · exact step_load rfl trivial _ _ _ rfl rfl (fun w hw => whole4 w _ X hw.y)
    · exact step_binOp rfl trivial _ _ _ _ _ _ _ rfl rfl rfl (fun w hw => neqs rfl hX w)
    · exact step_move rfl trivial _ rfl (by kernel_rfl)
    · exact step_move rfl (by exact ⟨_, rfl, by kernel_rfl⟩) _ rfl (by kernel_rfl)
    · exact step_move rfl (by exact ⟨_, rfl, by kernel_rfl⟩) _ rfl (by kernel_rfl)
    · exact step_binOp rfl (by exact ⟨_, rfl, by kernel_rfl⟩) _ _ _ _ _ _ _ rfl rfl rfl (fun w hw => (bin_neq .i64 _ _).trans (by simp))
    · exact step_pick rfl trivial _ _ _ false rfl (by kernel_rfl) (by kernel_rfl)
    · exact step_move rfl trivial _ rfl (by kernel_rfl)
    · exact step_move rfl (by exact ⟨_, rfl, by kernel_rfl⟩) _ rfl (by kernel_rfl)
    · exact step_move rfl (by exact ⟨_, rfl, by kernel_rfl⟩) _ rfl (by kernel_rfl)
    · exact step_binOp rfl (by exact ⟨_, rfl, by kernel_rfl⟩) _ _ _ _ _ _ _ rfl rfl rfl (fun w hw => (bin_neq .i64 _ _).trans (by simp))
    · exact step_pick rfl trivial _ _ _ false rfl (by kernel_rfl) (by kernel_rfl)
    · exact step_move rfl trivial _ rfl (by kernel_rfl)
    · exact step_move rfl (by exact ⟨_, rfl, by kernel_rfl⟩) _ rfl (by kernel_rfl)
    · exact step_move rfl (by exact ⟨_, rfl, by kernel_rfl⟩) _ rfl (by kernel_rfl)
    · exact step_binOp rfl (by exact ⟨_, rfl, by kernel_rfl⟩) _ _ _ _ _ _ _ rfl rfl rfl (fun w hw => (bin_neq .i64 _ _).trans (by simp))
    · exact step_pick rfl trivial _ _ _ false rfl (by kernel_rfl) (by kernel_rfl)
    · exact step_move rfl trivial _ rfl (by kernel_rfl)
    · exact step_load rfl (by exact ⟨_, rfl, by kernel_rfl⟩) _ _ _ rfl rfl (fun w hw => whole4 w _ N0 hw.s)
    · exact step_move rfl (by exact ⟨_, rfl, by kernel_rfl⟩) _ rfl (by kernel_rfl)
    · exact step_call rfl (by exact ⟨_, rfl, by kernel_rfl⟩) 10 _ _ [(sv N0), (.int .i64 a1)] rfl (by kernel_rfl) (enters_of Tryd.func10 (by kernel_rfl) rfl) (fun w hw => (has_any N0 a1 w).mono (by rintro e w' ⟨rfl, hb⟩; exact ⟨rfl, hw.carry hb⟩))
    · exact step_load rfl (by exact ⟨_, rfl, by kernel_rfl⟩) _ _ _ rfl rfl (fun w hw => whole4 w _ N0 hw.s)
    · exact step_move rfl (by exact ⟨_, rfl, by kernel_rfl⟩) _ rfl (by kernel_rfl)
    · exact step_call rfl (by exact ⟨_, rfl, by kernel_rfl⟩) 11 _ _ [(sv N0), (.int .i64 a1)] rfl (by kernel_rfl) (enters_of Tryd.func11 (by kernel_rfl) rfl) (fun w hw => (rHas_any N0 a1 w).mono (by rintro e w' ⟨rfl, hb⟩; exact ⟨rfl, hw.carry hb⟩))
    · exact step_binOp rfl (by exact ⟨_, rfl, by kernel_rfl⟩) _ _ _ _ _ _ _ rfl rfl rfl (fun w hw => bin_neqb _)
    · exact step_pick rfl trivial _ _ _ false rfl (by kernel_rfl) (by kernel_rfl)
    · exact step_move rfl trivial _ rfl (by kernel_rfl)
    · exact step_load rfl (by exact ⟨_, rfl, by kernel_rfl⟩) _ _ _ rfl rfl (fun w hw => whole4 w _ N0 hw.s)
    · exact step_move rfl (by exact ⟨_, rfl, by kernel_rfl⟩) _ rfl (by kernel_rfl)
    · exact step_call rfl (by exact ⟨_, rfl, by kernel_rfl⟩) 12 _ _ [(sv N0), (.int .i64 a1)] rfl (by kernel_rfl) (enters_of Tryd.func12 (by kernel_rfl) rfl) (fun w hw => (without_any N0 a1 w).mono (by rintro e w' ⟨rfl, hb⟩; exact ⟨rfl, hw.carry hb⟩))
    · exact step_load rfl (by exact ⟨_, rfl, by kernel_rfl⟩) _ _ _ rfl rfl (fun w hw => whole4 w _ N0 hw.s)
    · exact step_move rfl (by exact ⟨_, rfl, by kernel_rfl⟩) _ rfl (by kernel_rfl)
    · exact step_call rfl (by exact ⟨_, rfl, by kernel_rfl⟩) 13 _ _ [(sv N0), (.int .i64 a1)] rfl (by kernel_rfl) (enters_of Tryd.func13 (by kernel_rfl) rfl) (fun w hw => (rWithout_any N0 a1 w).mono (by rintro e w' ⟨rfl, hb⟩; exact ⟨rfl, hw.carry hb⟩))
    · exact step_binOp rfl (by exact ⟨_, rfl, by kernel_rfl⟩) _ _ _ _ _ _ _ rfl rfl rfl (fun w hw => neqs rfl (wol_lt N0 a1) w)
    · exact step_pick rfl trivial _ _ _ false rfl (by kernel_rfl) (by kernel_rfl)
  intro W hW
  first | refine hK _ _ ?_ | refine (‹∀ (a : Act) (w : World), Code.wp Tryd.prog _ _ a w → _›) _ _ ?_
  simp only [finL, List.getD_cons_zero, List.getD_cons_succ, Nat.zero_add, Nat.reduceAdd, List.setIfInBounds_toArray, List.set_cons_zero, List.set_cons_succ]
  clear hK hJ
  go_wp2
  rename_i K1 hK
  refine wp_region_any hmx ?_
  have hll : (idsTo N0 100).length < 9223372036854775807 := by have := popAux_le 100 N0; rw [idsTo_length]; omega
  have hcl := idsTo_cln N0
  refine wpAny_tabG (G := (Value × Value)) (fun g i__ => ([(.bool true), (.bool true), (sv N0), (.int .i64 ((cnt (cln N0) : Nat) : Int)), (sv N0), (.int .i64 ((cnt (cln N0) : Nat) : Int)), (.bool true), (.bool true), (.bool true), (sv N0), (.int .i64 (leastZ (cln N0))), (sv N0), (.int .i64 (leastZ (cln N0))), (.bool true), (.bool true), (.bool true), (sv N0), g.1, (sv N0), g.2, (.bool true), (.bool true), (.bool true)] : List Value).getD i__ undef) (fun g d W => JI w N0 X wA.heap.size wB.heap.size g (d 17) (d 19) W) (by kernel_rfl) (undef, undef) ⟨hW.carry (Below.refl _ _).drew, (fun e => by cases e), (fun e => by cases e)⟩ ?step1 ?fin1
  case step1 =>
    intro i o ho
    have hi : i < 23 := getElem?_lt ho
    match i, hi, ho with
    | 0, _, ho =>
      cases ho
      refine stepG_of (fun g d hdep => ?_)
      exact step_call rfl trivial 14 _ _ [] rfl (by kernel_rfl) (enters_of Tryd.func14 (by kernel_rfl) rfl) (fun w hw => (alive_any  w).mono (by rintro e w' ⟨rfl, hb⟩; exact ⟨rfl, hw.carry hb⟩))
    | 1, _, ho =>
      cases ho
      refine stepG_of (fun g d hdep => ?_)
      exact step_move rfl trivial _ rfl (by kernel_rfl)
    | 2, _, ho =>
      cases ho
      refine stepG_of (fun g d hdep => ?_)
      exact step_load rfl (by exact ⟨_, rfl, by kernel_rfl⟩) _ _ _ rfl rfl (fun w hw => whole4 w _ N0 hw.o.s)
    | 3, _, ho =>
      cases ho
      refine stepG_of (fun g d hdep => ?_)
      exact step_call rfl (by exact ⟨_, rfl, by kernel_rfl⟩) 15 _ _ [(sv N0)] rfl (by kernel_rfl) (enters_of Tryd.func15 (by kernel_rfl) rfl) (fun w hw => (count_any N0 w).mono (by rintro e w' ⟨rfl, hb⟩; exact ⟨rfl, hw.carry hb⟩))
    | 4, _, ho =>
      cases ho
      refine stepG_of (fun g d hdep => ?_)
      exact step_load rfl (by exact ⟨_, rfl, by kernel_rfl⟩) _ _ _ rfl rfl (fun w hw => whole4 w _ N0 hw.o.s)
    | 5, _, ho =>
      cases ho
      refine stepG_of (fun g d hdep => ?_)
      exact step_call rfl (by exact ⟨_, rfl, by kernel_rfl⟩) 16 _ _ [(sv N0)] rfl (by kernel_rfl) (enters_of Tryd.func16 (by kernel_rfl) rfl) (fun w hw => (rCount_any N0 w).mono (by rintro e w' ⟨rfl, hb⟩; exact ⟨by rw [cnt_cln_ids]; rfl, hw.carry hb⟩))
    | 6, _, ho =>
      cases ho
      refine stepG_of (fun g d hdep => ?_)
      exact step_binOp rfl (by exact ⟨_, rfl, by kernel_rfl⟩) _ _ _ _ _ _ _ rfl rfl rfl (fun w hw => (bin_eql .i64 _ _).trans (by simp))
    | 7, _, ho =>
      cases ho
      refine stepG_of (fun g d hdep => ?_)
      exact step_pick rfl trivial _ _ _ true rfl (by kernel_rfl) (by kernel_rfl)
    | 8, _, ho =>
      cases ho
      refine stepG_of (fun g d hdep => ?_)
      exact step_move rfl trivial _ rfl (by kernel_rfl)
    | 9, _, ho =>
      cases ho
      refine stepG_of (fun g d hdep => ?_)
      exact step_load rfl (by exact ⟨_, rfl, by kernel_rfl⟩) _ _ _ rfl rfl (fun w hw => whole4 w _ N0 hw.o.s)
    | 10, _, ho =>
      cases ho
      refine stepG_of (fun g d hdep => ?_)
      exact step_call rfl (by exact ⟨_, rfl, by kernel_rfl⟩) 17 _ _ [(sv N0)] rfl (by kernel_rfl) (enters_of Tryd.func17 (by kernel_rfl) rfl) (fun w hw => (least_any N0 w (hT.keep hw.o.below hT.lt)).mono (by rintro e w' ⟨rfl, hb⟩; exact ⟨rfl, hw.carry hb⟩))
    | 11, _, ho =>
      cases ho
      refine stepG_of (fun g d hdep => ?_)
      exact step_load rfl (by exact ⟨_, rfl, by kernel_rfl⟩) _ _ _ rfl rfl (fun w hw => whole4 w _ N0 hw.o.s)
    | 12, _, ho =>
      cases ho
      refine stepG_of (fun g d hdep => ?_)
      exact step_call rfl (by exact ⟨_, rfl, by kernel_rfl⟩) 18 _ _ [(sv N0)] rfl (by kernel_rfl) (enters_of Tryd.func18 (by kernel_rfl) rfl) (fun w hw => (rLeast_any N0 w).mono (by rintro e w' ⟨rfl, hb⟩; exact ⟨rfl, hw.carry hb⟩))
    | 13, _, ho =>
      cases ho
      refine stepG_of (fun g d hdep => ?_)
      exact step_binOp rfl (by exact ⟨_, rfl, by kernel_rfl⟩) _ _ _ _ _ _ _ rfl rfl rfl (fun w hw => (bin_eql .i64 _ _).trans (by simp))
    | 14, _, ho =>
      cases ho
      refine stepG_of (fun g d hdep => ?_)
      exact step_pick rfl trivial _ _ _ true rfl (by kernel_rfl) (by kernel_rfl)
    | 15, _, ho =>
      cases ho
      refine stepG_of (fun g d hdep => ?_)
      exact step_move rfl trivial _ rfl (by kernel_rfl)
    | 16, _, ho =>
      cases ho
      refine stepG_of (fun g d hdep => ?_)
      exact step_load rfl (by exact ⟨_, rfl, by kernel_rfl⟩) _ _ _ rfl rfl (fun w hw => whole4 w _ N0 hw.o.s)
    | 17, _, ho =>
      cases ho
      exact stepG_call rfl (fun g => ⟨_, rfl, by kernel_rfl⟩) 20 _ _ (fun _ => [sv N0]) rfl (fun g => by kernel_rfl) (enters_of Tryd.func20 (by kernel_rfl) rfl) (fun g d w hJ hun _ => (ids_any N0 w (hT.keep hJ.o.below hT.lt)).mono (by rintro e w' ⟨v, rfl, hown, hb⟩; refine ⟨(v, g.2), rfl, ?_, (hJ.o.carry hb), fun _ => ?_, fun h => (hJ.v h).carry hb⟩; exact (fun j hj => match j, hj with | 17, hj => (by rw [hj] at hun; cases hun) | 0, _ => rfl | 1, _ => rfl | 2, _ => rfl | 3, _ => rfl | 4, _ => rfl | 5, _ => rfl | 6, _ => rfl | 7, _ => rfl | 8, _ => rfl | 9, _ => rfl | 10, _ => rfl | 11, _ => rfl | 12, _ => rfl | 13, _ => rfl | 14, _ => rfl | 15, _ => rfl | 16, _ => rfl | 18, _ => rfl | 19, _ => rfl | 20, _ => rfl | 21, _ => rfl | 22, _ => rfl | _ + 23, _ => rfl); rw [hcl, cnt_cln_ids] at hown; exact RdL.of hown))
    | 18, _, ho =>
      cases ho
      refine stepG_of (fun g d hdep => ?_)
      exact step_load rfl (by exact ⟨_, rfl, by kernel_rfl⟩) _ _ _ rfl rfl (fun w hw => whole4 w _ N0 hw.o.s)
    | 19, _, ho =>
      cases ho
      exact stepG_call rfl (fun g => ⟨_, rfl, by kernel_rfl⟩) 21 _ _ (fun _ => [sv N0]) rfl (fun g => by kernel_rfl) (enters_of Tryd.func21 (by kernel_rfl) rfl) (fun g d w hJ hun _ => (rIds_any N0 w).mono (by rintro e w' ⟨v, rfl, hown, hb⟩; refine ⟨(g.1, v), rfl, ?_, (hJ.o.carry hb), fun h => (hJ.u h).carry hb, fun _ => RdL.of hown⟩; exact (fun j hj => match j, hj with | 19, hj => (by rw [hj] at hun; cases hun) | 0, _ => rfl | 1, _ => rfl | 2, _ => rfl | 3, _ => rfl | 4, _ => rfl | 5, _ => rfl | 6, _ => rfl | 7, _ => rfl | 8, _ => rfl | 9, _ => rfl | 10, _ => rfl | 11, _ => rfl | 12, _ => rfl | 13, _ => rfl | 14, _ => rfl | 15, _ => rfl | 16, _ => rfl | 17, _ => rfl | 18, _ => rfl | 20, _ => rfl | 21, _ => rfl | 22, _ => rfl | _ + 23, _ => rfl)))
    | 20, _, ho =>
      cases ho
      refine stepG_of (fun g d hdep => ?_)
      exact step_call rfl (by exact ⟨_, rfl, by kernel_rfl⟩) 19 _ _ [g.1, g.2] rfl (by kernel_rfl) (enters_of Tryd.func19 (by kernel_rfl) rfl) (fun w hw => (same_any (idsTo N0 100) hll g.1 g.2 w (hw.u (hdep 17 (by kernel_rfl))) (hw.v (hdep 19 (by kernel_rfl)))).mono (by rintro e w' ⟨rfl, hb⟩; exact ⟨rfl, hw.carry hb⟩))
    | 21, _, ho =>
      cases ho
      refine stepG_of (fun g d hdep => ?_)
      exact step_pick rfl trivial _ _ _ true rfl (by kernel_rfl) (by kernel_rfl)
    | 22, _, ho =>
      cases ho
      refine stepG_of (fun g d hdep => ?_)
      exact step_assign rfl trivial _ rfl (by kernel_rfl) (fun _ h => h)
  intro g d W hall hW
  first | refine hK _ _ ?_ | refine (‹∀ (a : Act) (w : World), Code.wp Tryd.prog _ _ a w → _›) _ _ ?_
  simp only [finL, List.getD_cons_zero, List.getD_cons_succ, Nat.zero_add, Nat.reduceAdd, List.setIfInBounds_toArray, List.set_cons_zero, List.set_cons_succ]
  go_wp2
  go_ret
  exact ⟨rfl, hW.o.below⟩

set_option maxRecDepth 100000 in
theorem lifted (os : Os) (started : os.Started) (H : Type) (enc : TypeId × Value → H) :
    ReturnsInHanded {} Tryd.checked os 3 .any (fun w args => (Rows.setOnesSpec.pre enc Tryd.prog Tryd.f3 [] false w args ∧ laidMetH Tryd.prog Rows.setOnesRow.laid w) ∧ sizedMet enc Tryd.prog Tryd.f3 (OpenSpec.ofChange Rows.setOnesSpec) false w args)
      (Rows.setOnesSpec.post enc Tryd.prog Tryd.f3 false true false false) := by
  refine returnsInHanded_of_change_and (C := Tryd.checked) (X := fun w _ => laidMetH Tryd.prog Rows.setOnesRow.laid w) (fun _ _ _ hh h => h.of_heap hh) own started (by kernel_rfl) Tryd.func3
    (ChangeSpec.witness_shaped (enc := enc) (C := Tryd.checked) (os := os) (X := fun w _ => laidMetH Tryd.prog Rows.setOnesRow.laid w) false (World.laidAll Tryd.prog os Rows.setOnesRow.laid) #[.agg #[.int .u32 0, .int .u32 0, .int .u32 0, .int .u32 0], .int .i64 0, .int .i64 0] 8 (World.laidAll_os _ _ _)
      (World.shaped_of_ZipB (by kernel_rfl) (by kernel_rfl)) (by kernel_rfl) (by kernel_rfl) (by kernel_rfl)
      (by rw [MakeChecks.laidMetH_plain _ _ _ (by kernel_rfl)]; exact laidMet_laidAll _ (by kernel_rfl) (by kernel_rfl))) ?_
  intro W base args ds gs before hval0 hW _ _ hL hsz
  have hval : ∀ (j : Nat) t v, Tryd.f3.params[j]? = some t → args[j]? = some v → Value.okWide Tryd.prog W .any base t v := hval0
  have hW' := hW
  obtain ⟨p, q, hA0, hV, rfl, hfz, hnd⟩ := hW
  have hA : DataW.TrodAll enc Tryd.prog W 0 (fun _ => true) true Tryd.f3.params.toList args.toList ds p := hA0
  rw [Tryd.params3] at hA hval
  obtain ⟨v0, vs0, d0, ds0, p0, q0, hargs, rfl, rfl, h0, r0⟩ := trodAll_cons hA
  obtain ⟨v1, vs1, d1, ds1, p1, q1, rfl, rfl, rfl, h1, r1⟩ := trodAll_cons r0
  obtain ⟨v2, vs2, d2, ds2, p2, q2, rfl, rfl, rfl, h2, r2⟩ := trodAll_cons r1
  obtain ⟨rfl, rfl, rfl⟩ := trodAll_nil r2
  obtain rfl : args = #[v0, v1, v2] := by cases args; simp_all
  obtain ⟨rfl, rfl⟩ := trodVars_none hV
  obtain ⟨N0, hN0, rfl, rfl, rfl⟩ := open_set (hval 0 24 v0 rfl rfl) h0
  obtain ⟨a1, rfl, rfl, rfl, w1⟩ := open_int Tryd.underlying3 (hval 1 3 v1 rfl rfl) h1
  obtain ⟨a2, rfl, rfl, rfl, w2⟩ := open_int Tryd.underlying3 (hval 2 3 v2 rfl rfl) h2
  clear hA0 hval0
  simp only [List.append_nil] at hW'
  refine (walk N0 hN0 a1 w1 a2 w2 W hL).mono fun e W' ⟨he, hg⟩ => ?_
  subst he
  exact ⟨_, rfl, _, _, _, [], _, [], hW', (trodAll_cons_mk (shut_bool Tryd.underlying4 _) trodAll_mk0), (trodAll_cons_mk (shut_set N0) (trodAll_cons_mk (shut_int Tryd.underlying3 w1) (trodAll_cons_mk (shut_int Tryd.underlying3 w2) trodAll_mk0))), rfl, hg.frame _, fun h => by cases h⟩

theorem over : Rows.setOnesRow.holds Tryd.pinned (OpenSpec.ofChange Rows.setOnesSpec) :=
  OpenClaim.holds_of_wide 3 Tryd.f3 rfl rfl rfl rfl rfl rfl rfl ⟨rfl, rfl, rfl, rfl, rfl⟩ rfl rfl rfl rfl rfl (by kernel_rfl) Tryd.func3 (by kernel_rfl)
    (of_decide_eq_true (by kernel_rfl)) (by unfold Func.isWrapper; first | (rw [if_pos (by decide +kernel)]; kernel_rfl) | (rw [if_neg (by decide +kernel)]; exact ⟨rfl, rfl⟩))
    (fun os started H enc _ => lifted os started H enc)

theorem row_proved : Rows.SetOnesSaid :=
  over
theorem proved : Rows.SetOnesCardSaid :=
  Claim7.holds_tied_plain_at .later [] [.data] true (true, "5f82106188961b54f33832bd346b1f97e4ed19f7e3f38046201299d39cb02b44") false
    row_proved (fun _ h => by cases h) (by kernel_rfl) (fun _ h => by cases h) setOnes_row_tie rfl ⟨rfl, rfl⟩ (by kernel_rfl) rfl
    (fun f fn hf hfn => by
      obtain rfl : f = 3 := Option.some.inj ((show Tryd.prog.funcNamed "earshot/earshotlaw3.SetOnes" = some 3 by kernel_rfl).symm.trans hf) |>.symm
      obtain rfl : fn = Tryd.f3 := (Option.some.inj (Tryd.func3.symm.trans hfn)).symm
      exact ⟨by kernel_rfl, fun j t ht => by
        rw [Tryd.params3] at ht
        rcases j with _ | j
        · have e : t = 24 := by simpa using ht.symm
          subst e
          exact (show Tryd.prog.wantsStandIn 24 = false by kernel_rfl)
        rcases j with _ | j
        · have e : t = 3 := by simpa using ht.symm
          subst e
          exact (show Tryd.prog.wantsStandIn 3 = false by kernel_rfl)
        rcases j with _ | j
        · have e : t = 3 := by simpa using ht.symm
          subst e
          exact (show Tryd.prog.wantsStandIn 3 = false by kernel_rfl)
        simp at ht⟩)
    (by kernel_rfl)
#print axioms proved
end Go.Proofs.YtahlehgibcdfeabDoor
