/- SetMakes: for every list of numbers, every set and every number Of, Full, Clean and Within answer as the document does; no condition. -/
import Derived.Test.YtahlehgibcdfeaaRows
import Derived.WalkKit
import Derived.ProofKit
import Derived.OpenShut
import Derived.Test.YtahlehgibcdfeaaRfm
import Derived.Test.YtahlehgibcdfeaaOpl
namespace Go.Proofs.Ytahlehgibcdfeaa
open Go.ChangeShapes Go.WideShapes Go.ChangeAt Go.RowKit
set_option linter.unusedVariables false

theorem laidOut : laidOutB Try.prog = true := by kernel_rfl
theorem own : ownKnob Try.prog.godebug = none := by kernel_rfl
structure JM (w : World) (N X Y b7 b9 b11 b13 : Nat) (W : World) : Prop where
  s : Holds4 W w.heap.size (wd N)
  x : Holds4 W b7 (wd X)
  x' : Holds4 W b9 (wd X)
  y : Holds4 W b11 (wd Y)
  y' : Holds4 W b13 (wd Y)
  below : Below w.heap.size w W
theorem JM.carry {w : World} {N X Y b7 b9 b11 b13 : Nat} {W W' : World} (h : JM w N X Y b7 b9 b11 b13 W) (hb : Below W.heap.size W W') : JM w N X Y b7 b9 b11 b13 W' :=
  ⟨h.s.carry hb, h.x.carry hb, h.x'.carry hb, h.y.carry hb, h.y'.carry hb, bcarry h.below (Nat.le_refl _) hb⟩
theorem bin_eqlb {x y : Operand} {w : World} (a : Bool) : binRun Try.prog .eql 4 x y (.bool a) (.bool a) w = .ok (.bool true) w := by
  unfold binRun
  cases a <;> go_simp
theorem Ints.below {w W : World} {ad : Option Addr} {l : List Int} (h : l ≠ [] → ∃ a, ad = some a ∧ Ints w a l) (hb : Below w.heap.size w W) : l ≠ [] → ∃ a, ad = some a ∧ Ints W a l := fun hn => by
  obtain ⟨a, rfl, hi⟩ := h hn
  exact ⟨a, rfl, hi.keep hb⟩
set_option maxHeartbeats 4000000 in
set_option maxRecDepth 100000 in
theorem walk (w : World) (ad0 : Option Addr) (cap0 : Nat) (l0 : List Int) (w0 : l0 ≠ [] → ∃ a, ad0 = some a ∧ Ints w a l0) (hl0 : l0.length ≤ maxLen) (N1 : Nat) (hN1 : N1 < S128) (a2 : Int) (w2 : (Lit.int .i64 a2).wf = true) :
    Calls Try.prog 6 #[.slice ad0 l0.length cap0, sv N1, .int .i64 a2] w fun e w' => e = .returned (.bool true) ∧ Below w.heap.size w w' := by
  have hmx : Try.prog.follows .mixedOrders = true := by kernel_rfl
  have hal := alive_any
  have hll : l0.length < 9223372036854775808 := by unfold maxLen at hl0; omega
  by_cases h5 : (l0.length : Int) > 5000
  · have h5' : 5000 < (l0.length : Int) := h5
    go_enter Try.func6, Try.ntmps6
    simp only [sv]
    go_wp2_with (go_at_call 11; refine (hal _).mono ?_; rintro e w3 ⟨rfl, hb3⟩)
    go_ret
    exact ⟨rfl, bcarry (alloc_below w _) (Nat.le_refl _) hb3⟩
  · have h5' : ¬ 5000 < (l0.length : Int) := h5
    have ho1 := of_anyO l0 ad0 cap0 (by omega)
    have ho2 := rOf_any l0 ad0 cap0 (by omega)
    have hf1 := full_any a2
    have hf2 := rFull_any a2
    obtain ⟨X, z, hX, hoV⟩ : ∃ X z, X < S128 ∧ ofV (ofN l0 0) = .tuple #[sv X, .int .i64 z] := by
      cases he : ofN l0 0 with
      | none => exact ⟨0, _, by decide, rfl⟩
      | some M => exact ⟨M, _, Nat.lt_trans (ofN_lt l0 0 M (by decide) he) (by decide), rfl⟩
    obtain ⟨Y, u, hY, hfV⟩ : ∃ Y u, Y < S128 ∧ fullV a2 = .tuple #[sv Y, .int .i64 u] := by
      unfold fullV
      split
      · rename_i h
        refine ⟨_, _, ?_, rfl⟩
        have : 2 ^ a2.toNat < S128 := Nat.pow_lt_pow_right (a := 2) (n := 128) (by decide) (by omega)
        unfold fullN
        omega
      · exact ⟨0, _, by decide, rfl⟩
    rw [hoV] at ho1 ho2
    rw [hfV] at hf1 hf2
    clear hoV hfV
    go_enter Try.func6, Try.ntmps6
    simp only [sv] at ho1 ho2 hf1 hf2 ⊢
    go_wp2_with (first | (go_at_call 16; refine (ho1 _ (Ints.below w0 (alloc_below w _))).mono ?_; rintro e wA ⟨rfl, hbA⟩; have qA : Hid (Holds4 wA w.heap.size (wd N1)) := (hbA.block _ (by simp)).trans (get_new (by simp)); have bA : Below w.heap.size w wA := bcarry (alloc_below w _) (Nat.le_refl _) hbA; have lA := qA.out.lt; clear hbA) | (go_at_call 17; refine (ho2 _ (Ints.below w0 (bA.alloc (by omega) _))).mono ?_; rintro e wB ⟨rfl, hbB⟩; have xB : Hid (Holds4 wB wA.heap.size (wd X)) := (hbB.block _ (by simp)).trans (get_new rfl); have qB : Hid (Holds4 wB w.heap.size (wd N1)) := (hbB.block _ (by simp; omega)).trans (get_old qA.out); have bB : Below w.heap.size w wB := bcarry (bA.alloc (by omega) _) (Nat.le_refl _) hbB; have lB := xB.out.lt; clear hbB qA) | (go_at_call 18; refine (hf1 _).mono ?_; rintro e wC ⟨rfl, hbC⟩; have zC : Hid (Holds4 wC wB.heap.size (wd X)) := (hbC.block _ (by simp)).trans (get_new rfl); have xC : Hid (Holds4 wC wA.heap.size (wd X)) := (hbC.block _ (by simp; omega)).trans (get_old xB.out); have qC : Hid (Holds4 wC w.heap.size (wd N1)) := (hbC.block _ (by simp; omega)).trans (get_old qB.out); have bC' : Below w.heap.size w wC := bcarry (bB.alloc (by omega) _) (Nat.le_refl _) hbC; have lC := zC.out.lt; clear hbC qB xB) | (go_at_call 19; refine (hf2 _).mono ?_; rintro e wD ⟨rfl, hbD⟩; have yD : Hid (Holds4 wD wC.heap.size (wd Y)) := (hbD.block _ (by simp)).trans (get_new rfl); have zD : Hid (Holds4 wD wB.heap.size (wd X)) := (hbD.block _ (by simp; omega)).trans (get_old zC.out); have xD : Hid (Holds4 wD wA.heap.size (wd X)) := (hbD.block _ (by simp; omega)).trans (get_old xC.out); have qD : Hid (Holds4 wD w.heap.size (wd N1)) := (hbD.block _ (by simp; omega)).trans (get_old qC.out); have bD : Below w.heap.size w wD := bcarry (bC'.alloc (by omega) _) (Nat.le_refl _) hbD; have lD := yD.out.lt; clear hbD qC xC zC))
    have hJ : JM w N1 X Y wA.heap.size wB.heap.size wC.heap.size wD.heap.size (wD.alloc (.cells (cells4 (wd Y)) 24)) := ⟨get_old qD.out, get_old xD.out, get_old zD.out, get_old yD.out, get_new rfl, bD.alloc (by omega) _⟩
    rename_i Q0 K0 hK
    refine wp_region_any hmx ?_
    refine wpAny_pure (fun i__ => ([(.bool true), (.bool true), (sv X), (sv X), (.bool true), (.bool true), (.bool true), (.int .i64 z), (.int .i64 z), (.bool true), (.bool true), (.bool true), (sv Y), (sv Y), (.bool true), (.bool true), (.bool true), (.int .i64 u), (.int .i64 u), (.bool true), (.bool true), (.bool true), (sv N1), (sv (cln N1)), (sv N1), (sv (cln N1)), (.bool true), (.bool true), (.bool true), (sv N1), (.int .i64 a2), (.bool (wthB N1 a2)), (sv N1), (.int .i64 a2), (.bool (wthB N1 a2)), (.bool true), (.bool true), (.bool true)] : List Value).getD i__ undef) (fun W => JM w N1 X Y wA.heap.size wB.heap.size wC.heap.size wD.heap.size W) (by kernel_rfl) (hJ.carry (Below.refl _ _).drew) ?_ ?_
    · refine (stepsFrom_cons ?_ (stepsFrom_cons ?_ (stepsFrom_cons ?_ (stepsFrom_cons ?_ (stepsFrom_cons ?_ (stepsFrom_cons ?_ (stepsFrom_cons ?_ (stepsFrom_cons ?_ (stepsFrom_cons ?_ (stepsFrom_cons ?_ (stepsFrom_cons ?_ (stepsFrom_cons ?_ (stepsFrom_cons ?_ (stepsFrom_cons ?_ (stepsFrom_cons ?_ (stepsFrom_cons ?_ (stepsFrom_cons ?_ (stepsFrom_cons ?_ (stepsFrom_cons ?_ (stepsFrom_cons ?_ (stepsFrom_cons ?_ (stepsFrom_cons ?_ (stepsFrom_cons ?_ (stepsFrom_cons ?_ (stepsFrom_cons ?_ (stepsFrom_cons ?_ (stepsFrom_cons ?_ (stepsFrom_cons ?_ (stepsFrom_cons ?_ (stepsFrom_cons ?_ (stepsFrom_cons ?_ (stepsFrom_cons ?_ (stepsFrom_cons ?_ (stepsFrom_cons ?_ (stepsFrom_cons ?_ (stepsFrom_cons ?_ (stepsFrom_cons ?_ (stepsFrom_cons ?_ trivial))))))))))))))))))))))))))))))))))))))
      · exact step_call rfl trivial 11 _ _ [] rfl (by kernel_rfl) (enters_of Try.func11 (by kernel_rfl) rfl) (fun w hw => (alive_any  w).mono (by rintro e w' ⟨rfl, hb⟩; exact ⟨rfl, hw.carry hb⟩))
      · exact step_move rfl trivial _ rfl (by kernel_rfl)
      · exact step_load rfl (by exact ⟨_, rfl, by kernel_rfl⟩) _ _ _ rfl rfl (fun w hw => whole4 w _ X hw.x)
      · exact step_load rfl (by exact ⟨_, rfl, by kernel_rfl⟩) _ _ _ rfl rfl (fun w hw => whole4 w _ X hw.x')
      · exact step_binOp rfl (by exact ⟨_, rfl, by kernel_rfl⟩) _ _ _ _ _ _ _ rfl rfl rfl (fun w hw => eqls rfl hX w)
      · exact step_pick rfl trivial _ _ _ true rfl (by kernel_rfl) (by kernel_rfl)
      · exact step_move rfl trivial _ rfl (by kernel_rfl)
      · exact step_move rfl (by exact ⟨_, rfl, by kernel_rfl⟩) _ rfl (by kernel_rfl)
      · exact step_move rfl (by exact ⟨_, rfl, by kernel_rfl⟩) _ rfl (by kernel_rfl)
      · exact step_binOp rfl (by exact ⟨_, rfl, by kernel_rfl⟩) _ _ _ _ _ _ _ rfl rfl rfl (fun w hw => (bin_eql .i64 _ _).trans (by simp))
      · exact step_pick rfl trivial _ _ _ true rfl (by kernel_rfl) (by kernel_rfl)
      · exact step_move rfl trivial _ rfl (by kernel_rfl)
      · exact step_load rfl (by exact ⟨_, rfl, by kernel_rfl⟩) _ _ _ rfl rfl (fun w hw => whole4 w _ Y hw.y)
      · exact step_load rfl (by exact ⟨_, rfl, by kernel_rfl⟩) _ _ _ rfl rfl (fun w hw => whole4 w _ Y hw.y')
      · exact step_binOp rfl (by exact ⟨_, rfl, by kernel_rfl⟩) _ _ _ _ _ _ _ rfl rfl rfl (fun w hw => eqls rfl hY w)
      · exact step_pick rfl trivial _ _ _ true rfl (by kernel_rfl) (by kernel_rfl)
      · exact step_move rfl trivial _ rfl (by kernel_rfl)
      · exact step_move rfl (by exact ⟨_, rfl, by kernel_rfl⟩) _ rfl (by kernel_rfl)
      · exact step_move rfl (by exact ⟨_, rfl, by kernel_rfl⟩) _ rfl (by kernel_rfl)
      · exact step_binOp rfl (by exact ⟨_, rfl, by kernel_rfl⟩) _ _ _ _ _ _ _ rfl rfl rfl (fun w hw => (bin_eql .i64 _ _).trans (by simp))
      · exact step_pick rfl trivial _ _ _ true rfl (by kernel_rfl) (by kernel_rfl)
      · exact step_move rfl trivial _ rfl (by kernel_rfl)
      · exact step_load rfl (by exact ⟨_, rfl, by kernel_rfl⟩) _ _ _ rfl rfl (fun w hw => whole4 w _ N1 hw.s)
      · exact step_call rfl (by exact ⟨_, rfl, by kernel_rfl⟩) 12 _ _ [(sv N1)] rfl (by kernel_rfl) (enters_of Try.func12 (by kernel_rfl) rfl) (fun w hw => (clean_any N1 w).mono (by rintro e w' ⟨rfl, hb⟩; exact ⟨rfl, hw.carry hb⟩))
      · exact step_load rfl (by exact ⟨_, rfl, by kernel_rfl⟩) _ _ _ rfl rfl (fun w hw => whole4 w _ N1 hw.s)
      · exact step_call rfl (by exact ⟨_, rfl, by kernel_rfl⟩) 20 _ _ [(sv N1)] rfl (by kernel_rfl) (enters_of Try.func20 (by kernel_rfl) rfl) (fun w hw => (rClean_any N1 w).mono (by rintro e w' ⟨rfl, hb⟩; exact ⟨rfl, hw.carry hb⟩))
      · exact step_binOp rfl (by exact ⟨_, rfl, by kernel_rfl⟩) _ _ _ _ _ _ _ rfl rfl rfl (fun w hw => eqls rfl (cln_lt' _) w)
      · exact step_pick rfl trivial _ _ _ true rfl (by kernel_rfl) (by kernel_rfl)
      · exact step_move rfl trivial _ rfl (by kernel_rfl)
      · exact step_load rfl (by exact ⟨_, rfl, by kernel_rfl⟩) _ _ _ rfl rfl (fun w hw => whole4 w _ N1 hw.s)
      · exact step_move rfl (by exact ⟨_, rfl, by kernel_rfl⟩) _ rfl (by kernel_rfl)
      · exact step_call rfl (by exact ⟨_, rfl, by kernel_rfl⟩) 21 _ _ [(sv N1), (.int .i64 a2)] rfl (by kernel_rfl) (enters_of Try.func21 (by kernel_rfl) rfl) (fun w hw => (within_any N1 hN1 a2 w).mono (by rintro e w' ⟨rfl, hb⟩; exact ⟨rfl, hw.carry hb⟩))
      · exact step_load rfl (by exact ⟨_, rfl, by kernel_rfl⟩) _ _ _ rfl rfl (fun w hw => whole4 w _ N1 hw.s)
      · exact step_move rfl (by exact ⟨_, rfl, by kernel_rfl⟩) _ rfl (by kernel_rfl)
      · exact step_call rfl (by exact ⟨_, rfl, by kernel_rfl⟩) 22 _ _ [(sv N1), (.int .i64 a2)] rfl (by kernel_rfl) (enters_of Try.func22 (by kernel_rfl) rfl) (fun w hw => (rWithin_any N1 hN1 a2 w).mono (by rintro e w' ⟨rfl, hb⟩; exact ⟨rfl, hw.carry hb⟩))
      · exact step_binOp rfl (by exact ⟨_, rfl, by kernel_rfl⟩) _ _ _ _ _ _ _ rfl rfl rfl (fun w hw => bin_eqlb _)
      · exact step_pick rfl trivial _ _ _ true rfl (by kernel_rfl) (by kernel_rfl)
      · exact step_assign rfl trivial _ rfl (by kernel_rfl) (fun _ h => h)
    intro W hW
    first | refine hK _ _ ?_ | refine (‹∀ (a : Act) (w : World), Code.wp Try.prog _ _ a w → _›) _ _ ?_
    simp only [finL, List.getD_cons_zero, List.getD_cons_succ, Nat.zero_add, Nat.reduceAdd, List.setIfInBounds_toArray, List.set_cons_zero, List.set_cons_succ]
    go_wp2
    go_ret
    exact ⟨rfl, hW.below⟩

set_option maxRecDepth 100000 in
theorem lifted (os : Os) (started : os.Started) (H : Type) (enc : TypeId × Value → H) :
    ReturnsInHanded {} Try.checked os 6 .any (Rows.setMakesSpec.pre6 enc Try.prog Try.f6 Rows.setMakesRow.domain false) (Rows.setMakesSpec.post enc Try.prog Try.f6 false true false false) := by
  refine returnsInHanded_of_change (C := Try.checked) own started (by kernel_rfl) Try.func6
    (ChangeSpec.witness6 (enc := enc) (C := Try.checked) false ⟨#[], #[.slice none 0 0, .agg #[.int .u32 0, .int .u32 0, .int .u32 0, .int .u32 0], .int .i64 0], []⟩ 8 (by kernel_rfl) (by kernel_rfl) (by kernel_rfl) (by kernel_rfl)) ?_
  intro W base args ds gs before hval0 hW hcnd _
  have hval : ∀ (j : Nat) t v, Try.f6.params[j]? = some t → args[j]? = some v → Value.okWide Try.prog W .any base t v := hval0
  have hW' := hW
  obtain ⟨p, q, hA0, hV, rfl, hfz, hnd⟩ := hW
  have hA : DataW.TrodAll enc Try.prog W 0 (fun _ => true) true Try.f6.params.toList args.toList ds p := hA0
  rw [Try.params6] at hA hval
  obtain ⟨v0, vs0, d0, ds0, p0, q0, hargs, rfl, rfl, h0, r0⟩ := trodAll_cons hA
  obtain ⟨v1, vs1, d1, ds1, p1, q1, rfl, rfl, rfl, h1, r1⟩ := trodAll_cons r0
  obtain ⟨v2, vs2, d2, ds2, p2, q2, rfl, rfl, rfl, h2, r2⟩ := trodAll_cons r1
  obtain ⟨rfl, rfl, rfl⟩ := trodAll_nil r2
  obtain rfl : args = #[v0, v1, v2] := by cases args; simp_all
  obtain ⟨rfl, rfl⟩ := trodVars_none hV
  have k0 := h0
  have lt0 : ∀ x ∈ p0, x.block < W.heap.size := by obtain ⟨m, hm⟩ := k0; exact DataW.trod_lt m _ _ _ hm
  obtain ⟨ad0, cap0, l0, rfl, w0, hl0⟩ := open_list (hval 0 33 v0 rfl rfl) h0
  obtain ⟨N1, hN1, rfl, rfl, rfl⟩ := open_set (hval 1 24 v1 rfl rfl) h1
  obtain ⟨a2, rfl, rfl, rfl, w2⟩ := open_int Try.underlying3 (hval 2 3 v2 rfl rfl) h2
  clear hA0 hval0
  refine (walk W ad0 cap0 l0 w0 hl0 N1 hN1 a2 w2).mono fun e W' ⟨he, hg⟩ => ?_
  subst he
  exact ⟨_, rfl, _, _, _, [], _, [], hW', (trodAll_cons_mk (shut_bool Try.underlying4 _) trodAll_mk0), (trodAll_cons_mk (Below.trod laidOut (by kernel_rfl) (of_decide_eq_true (by kernel_rfl)) k0 hg lt0) (trodAll_cons_mk (shut_set N1) (trodAll_cons_mk (shut_int Try.underlying3 w2) trodAll_mk0))), rfl, hg.frame _, fun h => by cases h⟩

theorem over : Rows.setMakesRow.holds Try.pinned (OpenSpec.ofChange Rows.setMakesSpec) :=
  OpenClaim.holds_of_wide 6 Try.f6 rfl rfl rfl rfl rfl rfl rfl ⟨rfl, rfl, rfl, rfl, rfl⟩ rfl rfl rfl rfl rfl (by kernel_rfl) Try.func6 (by kernel_rfl)
    (of_decide_eq_true (by kernel_rfl)) (by unfold Func.isWrapper; first | (rw [if_pos (by decide +kernel)]; kernel_rfl) | (rw [if_neg (by decide +kernel)]; exact ⟨rfl, rfl⟩))
    (fun os started H enc _ => lifted os started H enc)

theorem proved : Rows.SetMakesSaid :=
  over
#print axioms proved
end Go.Proofs.Ytahlehgibcdfeaa
