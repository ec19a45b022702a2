/- TallyNone (promise P1304): of a zero tally Take answers Alien, of a nil one 0 and ErrArg; both are not ready, and all else that they tell is zero. For every reply; nothing is asked of it. -/
import Derived.Test.YtcdefcaoocnlbabRows
import Derived.WalkKit
import Derived.ProofKit
import Derived.OpenShut
import Derived.Test.YtcdefcaoocnlbabTyn
namespace Go.Proofs.Ytcdefcaoocnlbab
open Go.ChangeShapes Go.WideShapes Go.ChangeAt Go.RowKit
set_option linter.unusedVariables false


theorem own : ownKnob Try.prog.godebug = none := by kernel_rfl
set_option maxHeartbeats 16000000 in
set_option maxRecDepth 100000 in
theorem walk (a0 : Int) (w0 : (Lit.int .i64 a0).wf = true) (a1 : Int) (w1 : (Lit.int .i64 a1).wf = true) (N2 : Nat) (hN2 : N2 < S128) (w : World) :
    Calls Try.prog 4 #[.int .i64 a0, .int .i64 a1, sv N2] w fun e w' => e = .returned (.bool true) ∧ Below w.heap.size w w' := by
  obtain ⟨w1, hw1⟩ : ∃ w1, w.alloc (.cells #[.int .u32 (wd N2 0 : Nat), .int .u32 (wd N2 1 : Nat), .int .u32 (wd N2 2 : Nat), .int .u32 (wd N2 3 : Nat)] 24) = w1 := ⟨_, rfl⟩
  have hb1 : Below w.heap.size w w1 := by rw [← hw1]; exact al1' _ _
  have g1 : Holds4 w1 w.heap.size (wd N2) := by rw [← hw1]; exact new_at rfl
  obtain ⟨w2, hw2⟩ : ∃ w2, w1.alloc (.cells #[.int .i64 0, .int .i64 0, .int .i64 0, .int .u32 0, .int .u32 0, .int .u32 0, .int .u32 0, .slice none 0 0] 31) = w2 := ⟨_, rfl⟩
  have hT : Ta w2 w.heap.size w1.heap.size none 0 (tl0 0 0 0) := by rw [← hw2]; exact zero_ta w1 _ hb1.size
  have hb2 : Below w.heap.size w w2 := by rw [← hw2]; exact bel2 hb1 (al1' _ _)
  have g2 : Holds4 w2 w.heap.size (wd N2) := by rw [← hw2]; exact old_at g1
  have htk := take_any hT zero_tv hb2.size a0 a1 N2 hN2
  rw [zero_fate, zero_tk] at htk
  obtain ⟨y0, y1, y2, y3, _⟩ := g2.facts
  have G2 : Hid (Holds4 w2 w.heap.size (wd N2)) := g2
  have e0 : sv 0 = .agg #[.int .u32 0, .int .u32 0, .int .u32 0, .int .u32 0] := by kernel_rfl
  have hq := eqn4 0 0 (by decide) (by decide)
  rw [e0] at hq
  clear g1 g2
  simp only [sv] at htk ⊢
  go_enter Try.func4, Try.ntmps4
  go_wp2_with (first
    | (go_at_call 6; (with_reducible refine htk.mono ?_); rintro e u1 ⟨rfl, ad1, cap1, hT1, hn1, _⟩; have hlt := hT.lt; have g3 : Holds4 u1 w.heap.size (wd N2) := (hn1.block _ G2.out.lt (by have := hb1.size; have := G2.out.lt; rw [← hw1]; simp) (by simp [ob])).trans G2.out; obtain ⟨x0, x1, x2, x3, _⟩ := g3.facts; have hbu : Hid (Below w.heap.size w u1) := hb2.trans (hT.below hn1); have htn := take_nil a0 a1 N2 u1; simp only [sv] at htn)
    | (go_at_call 6; (with_reducible refine htn.mono ?_); rintro e u2 ⟨rfl, hb3⟩; have hal := alive_any u2)
    | (go_at_call 7; (with_reducible refine hal.mono ?_); rintro e u3 ⟨rfl, hb4⟩; have hT3 := (hT1.carry hb3).carry hb4; have hr1 := ready_any hT3; have hr2 := ready_nil u3; have hh := have_any hT3; have hn1 := need_any hT3; have hn2 := need_nil u3; have hhe := heards_any hT3 (by simp [tl0]))
    | (go_at_call 8; (with_reducible refine hr1.mono ?_); rintro e v ⟨rfl, hv⟩; obtain rfl := hv.symm)
    | (go_at_call 8; (with_reducible refine hr2.mono ?_); rintro e v ⟨rfl, hv⟩; obtain rfl := hv.symm)
    | (go_at_call 9; (with_reducible refine hh.mono ?_); rintro e v ⟨rfl, hv⟩; obtain rfl := hv.symm)
    | (go_at_call 10; (with_reducible refine hn1.mono ?_); rintro e v ⟨rfl, hv⟩; obtain rfl := hv.symm)
    | (go_at_call 10; (with_reducible refine hn2.mono ?_); rintro e v ⟨rfl, hv⟩; obtain rfl := hv.symm)
    | (go_at_call 11; (with_reducible refine hhe.mono ?_); rintro e u4 ⟨aa, cc, rfl, _, hb5⟩; have hhn := heards_nil u4)
    | (go_at_call 11; (with_reducible refine hhn.mono ?_); rintro e u5 ⟨aa', cc', rfl, hb6⟩; have hre := reps_any ((hT3.carry hb5).carry hb6); simp only [tl0] at hre; rw [e0] at hre)
    | (go_at_call 12; (with_reducible refine hre.mono ?_); rintro e u6 ⟨rfl, hb7⟩; have hrn := reps_nil u6; rw [e0] at hrn)
    | (go_at_call 12; (with_reducible refine hrn.mono ?_); rintro e u7 ⟨rfl, hb8⟩))
  go_ret
  have hsz := hbu.out.size
  exact ⟨rfl, bel2 (bel2 (bel2 (bel2 (bel2 (bel2 hbu.out hb3) hb4) hb5) hb6) hb7) hb8⟩

set_option maxRecDepth 100000 in
theorem lifted (os : Os) (started : os.Started) (H : Type) (enc : TypeId × Value → H) :
    ReturnsInHanded {} Try.checked os 4 .any (Rows.tallyNoneSpec.pre6 enc Try.prog Try.f4 Rows.tallyNoneRow.domain false) (Rows.tallyNoneSpec.post enc Try.prog Try.f4 false true false false) := by
  refine returnsInHanded_of_change (C := Try.checked) own started (by kernel_rfl) Try.func4
    (ChangeSpec.witness6 (enc := enc) (C := Try.checked) false ⟨#[], #[.int .i64 0, .int .i64 0, .agg #[.int .u32 0, .int .u32 0, .int .u32 0, .int .u32 0]], []⟩ 8 (by kernel_rfl) (by kernel_rfl) (by kernel_rfl) (by kernel_rfl)) ?_
  intro W base args ds gs before hval0 hW hcnd _
  have hval : ∀ (j : Nat) t v, Try.f4.params[j]? = some t → args[j]? = some v → Value.okWide Try.prog W .any base t v := hval0
  have hW' := hW
  obtain ⟨p, q, hA0, hV, rfl, hfz, hnd⟩ := hW
  have hA : DataW.TrodAll enc Try.prog W 0 (fun _ => true) true Try.f4.params.toList args.toList ds p := hA0
  rw [Try.params4] at hA hval
  obtain ⟨v0, vs0, d0, ds0, p0, q0, hargs, rfl, rfl, h0, r0⟩ := trodAll_cons hA
  obtain ⟨v1, vs1, d1, ds1, p1, q1, rfl, rfl, rfl, h1, r1⟩ := trodAll_cons r0
  obtain ⟨v2, vs2, d2, ds2, p2, q2, rfl, rfl, rfl, h2, r2⟩ := trodAll_cons r1
  obtain ⟨rfl, rfl, rfl⟩ := trodAll_nil r2
  obtain rfl : args = #[v0, v1, v2] := by cases args; simp_all
  obtain ⟨rfl, rfl⟩ := trodVars_none hV
  obtain ⟨a0, rfl, rfl, rfl, w0⟩ := open_int Try.underlying3 (hval 0 3 v0 rfl rfl) h0
  obtain ⟨a1, rfl, rfl, rfl, w1⟩ := open_int Try.underlying3 (hval 1 3 v1 rfl rfl) h1
  obtain ⟨N2, hN2, rfl, rfl, rfl⟩ := open_set (hval 2 24 v2 rfl rfl) h2
  clear hA0 hval0
  simp only [List.append_nil] at hW'
  refine (walk a0 w0 a1 w1 N2 hN2 W).mono fun e W' ⟨he, hg⟩ => ?_
  subst he
  exact ⟨_, rfl, _, _, _, [], _, [], hW', (trodAll_cons_mk (shut_bool Try.underlying4 _) trodAll_mk0), (trodAll_cons_mk (shut_int Try.underlying3 w0) (trodAll_cons_mk (shut_int Try.underlying3 w1) (trodAll_cons_mk (shut_set N2) trodAll_mk0))), rfl, hg.frame _, fun h => by cases h⟩

theorem over : Rows.tallyNoneRow.holds Try.pinned (OpenSpec.ofChange Rows.tallyNoneSpec) :=
  OpenClaim.holds_of_wide 4 Try.f4 rfl rfl rfl rfl rfl rfl rfl ⟨rfl, rfl, rfl, rfl, rfl⟩ rfl rfl rfl rfl rfl (by kernel_rfl) Try.func4 (by kernel_rfl)
    (of_decide_eq_true (by kernel_rfl)) (by unfold Func.isWrapper; first | (rw [if_pos (by decide +kernel)]; kernel_rfl) | (rw [if_neg (by decide +kernel)]; exact ⟨rfl, rfl⟩))
    (fun os started H enc _ => lifted os started H enc)

theorem proved : Rows.TallyNoneSaid :=
  over
#print axioms proved
end Go.Proofs.Ytcdefcaoocnlbab
